import PyProof.Rows.All
import Wide.All
import OpenK.AllK
import Wide.FinOn
import PyProof.EqAt
import PyProof.EqKinds
import PyProof.TupleCall
import PyProof.FString
import PyProof.FString4
import KE.KFromBytes
import KE.KExcIs
import HandS.ForMost
import HandS.Exc
import HandS.ExcOwn
import HandS.ExcInit
import HandS.ExcValue
import HandS.ExcField
import HandS.IsInst
import HandS.FStr
import HandS.FStrTup
import HandS.ClsMeth
import HandS.Wide
import HandS.Evl
import HandS.Zip
import HandS.Walk
import HandS.ExcIs
import HandS.Deep
import HandS.WordsExc
import KE.GoesEnum
import HandS.MakeKwOnly
import HandS.HeadHook2
import HandS.Dict
import HandS.NoneIn
import HandS.TupAny
import HandS.WordsDict
import HandS.More
import KE.GoesZip
import KE.GoesMore
import HandS.Strs
import HandS.DictComp
import HandS.ListItems
import KE.KDictList
import PyProof.DictValues
import KE.KDictPairs
import HandS.CallSlots
import OpenK.KOps
import HandS.Iter
import HandS.TryOnly
import PySem.Challenge.RW_swappedhot_k03_wrong_names
import HandS.Style
import HandS.List
import HandS.RaiseMore
import HandS.OwnEq
import KE.KRevSl
set_option Elab.async false
set_option linter.all false
set_option maxRecDepth 100000
set_option maxHeartbeats 2000000
namespace Cm
open PySem PySem.Spec PyProof.Rows L2 Evl

/-- a def of the text, with its promise -/
structure Df (P : Program) (w : World) (K : PySem.W.Frag) (mg : Str → Option Value) (base : Heap) (k : Nat) (x : Str) (ps : List Str) (sp : Sp) where
  f : Addr
  fd : FuncData
  G : FnOk P w K mg base CX0 k f fd ps sp
  m : mg x = some (.ref f)
  kp : PySem.W.keepIn K (.ref f) = true
  b : Binds K fd ps []
/-- a def of the text as it stands -/
structure Bd (K : PySem.W.Frag) (mg : Str → Option Value) (x : Str) (st : Stmt) (ps : List Str) where
  f : Addr
  fd : FuncData
  F : Fun K x x st f fd
  m : mg x = some (.ref f)
  b : Binds K fd ps []
def Bd.df {P : Program} {w : World} {K : PySem.W.Frag} {mg : Str → Option Value} {base : Heap} {k : Nat} {x : Str} {st : Stmt} {ps : List Str} {sp : Sp} (B : Bd K mg x st ps) (G : FnOk P w K mg base CX0 k B.f B.fd ps sp) : Df P w K mg base k x ps sp :=
  ⟨B.f, B.fd, G, B.m, B.F.kp, B.b⟩

/-- all but the object at a is as it was -/
def SmB (a : Addr) (H H' : Hp) : Prop := ∀ b o, b ≠ a → H b = some o → H' b = some o
theorem SmB.refl (a : Addr) (H : Hp) : SmB a H H := fun _ _ _ h => h
theorem SmB.trans {a : Addr} {H H1 H2 : Hp} (x : SmB a H H1) (y : SmB a H1 H2) : SmB a H H2 := fun b o n h => y b o n (x b o n h)
theorem SmB.of {a : Addr} {H H' : Hp} (x : Ex H H') : SmB a H H' := fun b o _ h => x b o h
theorem SmB.upd {a : Addr} {H : Hp} {o : HO} : SmB a H (upd H a o) := fun b u n h => by
  rw [upd_ne n]
  exact h
theorem SmB.l {K : PySem.W.Frag} {H H' : Hp} {a p : Addr} {xs : List V} (e : SmB p H H') (n : a ≠ p) (h : SqL K H a xs) : SqL K H' a xs := by
  rcases h with (h | ⟨o, h⟩) | h
  · exact .inl (.inl (e _ _ n h))
  · exact .inl (.inr ⟨o, e _ _ n h⟩)
  · exact .inr h
theorem SmB.t {K : PySem.W.Frag} {H H' : Hp} {a p : Addr} {xs : List V} (e : SmB p H H') (n : a ≠ p) (h : SqT K H a xs) : SqT K H' a xs := by
  rcases h with (h | ⟨o, h⟩) | h
  · exact .inl (.inl (e _ _ n h))
  · exact .inl (.inr ⟨o, e _ _ n h⟩)
  · exact .inr h

/-! ### the pool of a law's script -/
structure PoolS (M : Addr → Prop) (H : Hp) (p : Addr) (g s : Addr) (gs ss : List Int) (cur cnt : Int) : Prop where
  obj : H p = some (.lst [.ref g, .ref s, .int cur, .int cnt])
  great : H g = some (.lst (gs.map V.int))
  small : H s = some (.lst (ss.map V.int))
  gpos : ∀ x ∈ gs, 0 < x
  srng : ∀ x ∈ ss, 0 ≤ x ∧ x < 1000003
  cur0 : 0 ≤ cur
  cnt0 : 0 ≤ cnt
  mg : ¬ M g
  ms : ¬ M s
def PoolAt (M : Addr → Prop) (H : Hp) (p : Addr) : Prop := ∃ g s gs ss cur cnt, PoolS M H p g s gs ss cur cnt
theorem ref_ne_ints {a : Addr} {vs : List V} {ns : List Int} : (HO.lst (.ref a :: vs)) ≠ HO.lst (ns.map V.int) := fun z => by
  cases ns with
  | nil => cases z
  | cons n r => cases z
section
variable {M N : Addr → Prop} {H H' : Hp} {p g s : Addr} {gs ss : List Int} {cur cnt : Int}
theorem PoolS.ng (P : PoolS M H p g s gs ss cur cnt) : g ≠ p := (ne_of P.obj P.great ref_ne_ints).symm
theorem PoolS.ns (P : PoolS M H p g s gs ss cur cnt) : s ≠ p := (ne_of P.obj P.small ref_ne_ints).symm
theorem PoolS.ex (P : PoolS M H p g s gs ss cur cnt) (e : Ex H H') : PoolS M H' p g s gs ss cur cnt :=
  ⟨e _ _ P.obj, e _ _ P.great, e _ _ P.small, P.gpos, P.srng, P.cur0, P.cnt0, P.mg, P.ms⟩
theorem PoolAt.ex (P : PoolAt M H p) (e : Ex H H') : PoolAt M H' p := by
  obtain ⟨g, s, gs, ss, cur, cnt, P⟩ := P
  exact ⟨g, s, gs, ss, cur, cnt, P.ex e⟩
theorem PoolAt.some (P : PoolAt M H p) : ∃ o, H p = some o := by
  obtain ⟨g, s, gs, ss, cur, cnt, P⟩ := P
  exact ⟨_, P.obj⟩
theorem PoolAt.weak (P : PoolAt M H p) (h : ∀ a, N a → M a) : PoolAt N H p := by
  obtain ⟨g, s, gs, ss, cur, cnt, P⟩ := P
  exact ⟨g, s, gs, ss, cur, cnt, P.obj, P.great, P.small, P.gpos, P.srng, P.cur0, P.cnt0, fun z => P.mg (h _ z), fun z => P.ms (h _ z)⟩
/-- what is not there is no part of the pool -/
theorem PoolAt.addM (P : PoolAt M H p) (h : ∀ a, N a → M a ∨ H a = none) : PoolAt N H p := by
  obtain ⟨g, s, gs, ss, cur, cnt, P⟩ := P
  refine ⟨g, s, gs, ss, cur, cnt, P.obj, P.great, P.small, P.gpos, P.srng, P.cur0, P.cnt0, fun z => (h _ z).elim P.mg fun q => ?_, fun z => (h _ z).elim P.ms fun q => ?_⟩
  · rw [P.great] at q
    cases q
  · rw [P.small] at q
    cases q
/-- a change at M leaves the pool -/
theorem PoolAt.upd (P : PoolAt M H p) {a : Addr} {o : HO} (ha : M a) (hp : p ≠ a) : PoolAt M (upd H a o) p := by
  obtain ⟨g, s, gs, ss, cur, cnt, P⟩ := P
  refine ⟨g, s, gs, ss, cur, cnt, by rw [upd_ne hp]; exact P.obj, ?_, ?_, P.gpos, P.srng, P.cur0, P.cnt0, P.mg, P.ms⟩
  · rw [upd_ne fun z => P.mg (by rw [z]; exact ha)]
    exact P.great
  · rw [upd_ne fun z => P.ms (by rw [z]; exact ha)]
    exact P.small
end
/-- what M names is there -/
def Live (M : Addr → Prop) (H : Hp) : Prop := ∀ a, M a → H a ≠ none
theorem Live.ex {M : Addr → Prop} {H H' : Hp} (l : Live M H) (e : Ex H H') : Live M H' := fun a z q => by
  cases h1 : H a with
  | none => exact l a z h1
  | some o =>
    rw [e _ _ h1] at q
    cases q
theorem Live.smb {M : Addr → Prop} {H H' : Hp} {p : Addr} (l : Live M H) (e : SmB p H H') (hp : H' p ≠ none) : Live M H' := fun a z q => by
  by_cases n : a = p
  · rw [n] at q
    exact hp q
  · cases h1 : H a with
    | none => exact l a z h1
    | some o =>
      rw [e _ _ n h1] at q
      cases q

def absI (x : Int) : Int := if x < 0 then -x else x
theorem given_ints (n : Nat) (f : Nat → Bool) (g : Nat → Int) : given n f (fun i => V.int (g i)) = (((List.range n).filter f).map g).map V.int := by
  unfold given
  rw [List.map_map]
  rfl
theorem given_mem {n : Nat} {f : Nat → Bool} {g : Nat → Int} {x : Int} (h : x ∈ ((List.range n).filter f).map g) : ∃ i, f i = true ∧ g i = x := by
  obtain ⟨i, hi, e⟩ := List.mem_map.mp h
  exact ⟨i, (List.mem_filter.mp hi).2, e⟩
theorem map_getD {ns : List Int} {i : Nat} {x : V} (h : (ns.map V.int)[i]? = some x) : x = .int (ns.getD i 0) := by
  rw [List.getElem?_map] at h
  cases e : ns[i]? with
  | none =>
    rw [e] at h
    cases h
  | some z =>
    rw [e] at h
    have h' := Option.some.inj h
    rw [← h']
    simp [List.getD, e]
theorem given_all (ns : List Int) : given (ns.map V.int).length (fun _ => true) (fun i => V.int (ns.getD i 0)) = ns.map V.int := by
  unfold given
  rw [List.length_map, List.filter_eq_self.mpr (fun _ _ => rfl)]
  apply List.ext_getElem?
  intro i
  by_cases h : i < ns.length
  · simp [List.getD, h]
  · simp [h, Nat.le_of_not_lt h]
theorem cut_ints (ns : List Int) (lo hi : Option Int) : ∃ cs : List Int, cutV (ns.map V.int) lo hi = cs.map V.int ∧ cs.length ≤ ns.length := by
  refine ⟨(ns.drop (HT.sIx ns.length 0 lo)).take (HT.sIx ns.length ns.length hi - HT.sIx ns.length 0 lo), ?_, ?_⟩
  · unfold cutV
    rw [List.length_map, List.map_take, List.map_drop]
  · rw [List.length_take, List.length_drop]
    omega
/-- xs[i] = e, e a new list -/
theorem s_setLL {σ : L2.St} {H : Hp} {D : Ends} {ta tb te : TE} {l : Addr} {xs ys : List V} {j : Nat} (hl : H l = some (.lst xs)) (h : EvL te σ H ys) (ho : Ev ta σ H (.ref l)) (hi : Ev tb σ H (.int (j : Int))) (hj : j < xs.length)
    (k : ∀ q H1, H q = none → Ex H H1 → H1 q = some (.lst ys) → D.nx σ (upd H1 l (.lst (xs.set j (.ref q))))) : tAsg te (gSub ta tb rSetL) D σ H := h H (Ex.refl H) _ fun q H1 hq e1 h1 => ho H1 e1 _ fun H2 e2 => hi H2 (e1.trans e2) _ fun H3 e3 =>
  ⟨l, xs, (j : Int), j, rfl, rfl, ((e1.trans e2).trans e3) l _ hl, ixN_nat hj, k q H3 hq ((e1.trans e2).trans e3) (e3 _ _ (e2 _ _ h1))⟩
theorem q_setLL {σ : L2.St} {H : Hp} {D : Ends} {tz : TS} {ta tb te : TE} {l : Addr} {xs ys : List V} {j : Nat} (hl : H l = some (.lst xs)) (h : EvL te σ H ys) (ho : Ev ta σ H (.ref l)) (hi : Ev tb σ H (.int (j : Int))) (hj : j < xs.length)
    (k : ∀ q H1, H q = none → Ex H H1 → H1 q = some (.lst ys) → tz D σ (upd H1 l (.lst (xs.set j (.ref q))))) : tSeq (tAsg te (gSub ta tb rSetL)) tz D σ H := s_setLL (D := { D with nx := tz D }) hl h ho hi hj k
theorem cut1 (xs : List V) : cutV xs (some 1) none = xs.drop 1 := by
  unfold cutV
  rw [show HT.sIx xs.length 0 (some 1) = min 1 xs.length from HT.sIx_nat xs.length 0 1, HT.sIx_none]
  cases xs with
  | nil => rfl
  | cons x r =>
    rw [show min 1 (x :: r).length = 1 by
      rw [List.length_cons]
      omega]
    show (List.take ((x :: r).length - 1) r) = r
    rw [List.length_cons, Nat.add_sub_cancel]
    exact List.take_length
theorem ev_int {K : PySem.W.Frag} {σ : L2.St} {H : Hp} {te : TE} {x : Int} (h : Ev te σ H (.int x)) : Ev (tCB (fun xs H Q => (∃ i, xs = [V.int i] ∧ Q (.int i) H) ∨ ∃ k, xs = [V.bl k] ∧ Q (.int (if k then 1 else 0)) H) (tCons te tNil)) σ H (.int x) :=
  ev_cb (ea_cons h ea_nil) fun H2 _ Q q => .inl ⟨_, rfl, q H2 (Ex.refl H2)⟩
theorem ev_intb {K : PySem.W.Frag} {σ : L2.St} {H : Hp} {te : TE} {b : Bool} (h : Ev te σ H (.bl b)) : Ev (tCB (fun xs H Q => (∃ i, xs = [V.int i] ∧ Q (.int i) H) ∨ ∃ k, xs = [V.bl k] ∧ Q (.int (if k then 1 else 0)) H) (tCons te tNil)) σ H (.int (if b then 1 else 0)) :=
  ev_cb (ea_cons h ea_nil) fun H2 _ Q q => .inr ⟨_, rfl, q H2 (Ex.refl H2)⟩
theorem ev_lenL {K : PySem.W.Frag} {σ : L2.St} {H : Hp} {te : TE} {p : Addr} {xs : List V} (h : Ev te σ H (.ref p)) (hx : SqL K H p xs) : Ev (tCB (fun xs H Q => ∃ p ys, xs = [V.ref p] ∧ (SqL K H p ys ∨ SqT K H p ys) ∧ Q (.int ys.length) H) (tCons te tNil)) σ H (.int (xs.length : Int)) :=
  Evl.ev_len h hx
theorem ev_lenT {K : PySem.W.Frag} {σ : L2.St} {H : Hp} {te : TE} {p : Addr} {xs : List V} (h : Ev te σ H (.ref p)) (hx : SqT K H p xs) : Ev (tCB (fun xs H Q => ∃ p ys, xs = [V.ref p] ∧ (SqL K H p ys ∨ SqT K H p ys) ∧ Q (.int ys.length) H) (tCons te tNil)) σ H (.int (xs.length : Int)) :=
  fun H1 e Q q => h H1 e _ fun H2 e2 => ⟨p, xs, rfl, .inr (ex_t (e.trans e2) hx), q H2 e2⟩
theorem lg {m : Int} (h : m.natAbs < 2 ^ 200) : m.natAbs.log2 < 9000 := Nat.lt_trans (PySem.Flt.log2_lt_of (by decide) h) (by decide)
theorem lgs {m : Int} (h : m.natAbs < 2 ^ 40) : m.natAbs.log2 < 9000 := Nat.lt_trans (PySem.Flt.log2_lt_of (by decide) h) (by decide)
theorem lt40 {n : Nat} (h : n < 1099511627776) : n < 2 ^ 40 := Nat.lt_of_lt_of_le h (by decide)
/-! ### names -/
structure IsName (z : Str) : Prop where
  lo : 1 ≤ z.length
  hi : z.length ≤ 8
  az : ∀ c ∈ z.cps.toList, 97 ≤ c ∧ c ≤ 122
abbrev AZ : Str := "abcdefghijklmnopqrstuvwxyz"
theorem az_at : ∀ i : Nat, i < 26 → AZ.cps.toList[i]? = some (97 + i) := by decide +kernel
theorem az_atI {i : Int} (h0 : 0 ≤ i) (h1 : i < 26) : ∃ c, atI AZ.cps.toList i = some c ∧ 97 ≤ c ∧ c ≤ 122 := by
  refine ⟨97 + i.toNat, ?_, by omega, by omega⟩
  have z := atI_nat (az_at i.toNat (by omega))
  rw [Int.toNat_of_nonneg h0] at z
  exact z
theorem az_len : AZ.length ≤ sizeLine := by decide +kernel
theorem one_len (c : Nat) : (⟨#[c]⟩ : Str).length = 1 := rfl
theorem name_add {z : Str} {c : Nat} (h : ∀ d ∈ z.cps.toList, 97 ≤ d ∧ d ≤ 122) (hc : 97 ≤ c ∧ c ≤ 122) : ∀ d ∈ (z ++ (⟨#[c]⟩ : Str)).cps.toList, 97 ≤ d ∧ d ≤ 122 := by
  intro d hd
  have hd : d ∈ (z.cps ++ #[c]).toList := hd
  rw [Array.toList_append] at hd
  rcases List.mem_append.mp hd with e | e
  · exact h d e
  · have e' : d = c := by simpa using e
    rw [e']
    exact hc
theorem flat_strs (ts : List Str) : (ts.map V.str).all flatV = true := by
  rw [List.all_map]
  exact List.all_eq_true.mpr fun _ _ => rfl
end Cm
set_option Elab.async false
set_option linter.all false
set_option maxRecDepth 100000
set_option maxHeartbeats 2000000
namespace Cm
open PySem PySem.Spec PyProof.Rows L2 Evl

/-- data at v in H, nested at most n deep, none of it at M -/
def Rp (M : Addr → Prop) (H : Hp) : Nat → V → PyData → Prop
  | _, .non, .none => True
  | _, .bl b, .bool c => b = c
  | _, .int i, .int j => i = j
  | _, .str x, .str y => x = y
  | n + 1, .ref a, .list ds => ∃ xs, H a = some (.lst xs) ∧ xs.length ≤ 1000 ∧ Paired (Rp M H n) xs ds ∧ ¬ M a
  | n + 1, .ref a, .tuple ds => ∃ xs, H a = some (.tup xs) ∧ xs.length ≤ 1000 ∧ Paired (Rp M H n) xs ds ∧ ¬ M a
  | _, _, _ => False
abbrev M0 : Addr → Prop := fun _ => False
/-- the heaps agree outside M -/
def ExM (M : Addr → Prop) (H H' : Hp) : Prop := ∀ a o, ¬ M a → H a = some o → H' a = some o
theorem ExM.refl (M : Addr → Prop) (H : Hp) : ExM M H H := fun _ _ _ h => h
theorem ExM.trans {M : Addr → Prop} {H H1 H2 : Hp} (a : ExM M H H1) (b : ExM M H1 H2) : ExM M H H2 := fun x o n h => b x o n (a x o n h)
theorem ExM.of {M : Addr → Prop} {H H' : Hp} (e : Ex H H') : ExM M H H' := fun a o _ h => e a o h
theorem ExM.upd {M : Addr → Prop} {H : Hp} {p : Addr} {o : HO} (h : M p) : ExM M H (upd H p o) := fun a u n e => by
  rw [upd_ne (fun z => n (by rw [z]; exact h))]
  exact e
theorem Rp.exM {M N : Addr → Prop} {H H' : Hp} (hN : ∀ a, N a → M a) (e : ExM M H H') : ∀ {n : Nat} {v : V} {d : PyData}, Rp M H n v d → Rp N H' n v d := by
  intro n
  induction n with
  | zero =>
    intro v d h
    cases v <;> cases d <;> first
      | exact h
      | (exfalso; exact h)
  | succ n ih =>
    intro v d h
    cases v <;> cases d <;> first
      | exact h
      | (exfalso; exact h)
      | (obtain ⟨xs, h1, h2, h3, h4⟩ := h
         exact ⟨xs, e _ _ h4 h1, h2, Paired.mapP h3 fun a b z => ih z, fun z => h4 (hN _ z)⟩)
theorem Rp.ex {M : Addr → Prop} {H H' : Hp} (e : Ex H H') {n : Nat} {v : V} {d : PyData} (h : Rp M H n v d) : Rp M H' n v d := h.exM (fun _ z => z) (ExM.of e)
theorem Rp.weak {M N : Addr → Prop} {H : Hp} (hN : ∀ a, N a → M a) {n : Nat} {v : V} {d : PyData} (h : Rp M H n v d) : Rp N H n v d := h.exM hN (ExM.refl _ _)
theorem Rp.w0 {M : Addr → Prop} {H : Hp} {n : Nat} {v : V} {d : PyData} (h : Rp M H n v d) : Rp M0 H n v d := h.weak fun _ z => z.elim
/-- what is not there is not part of it -/
theorem Rp.add {M : Addr → Prop} {H : Hp} {p : Addr} (hp : H p = none) : ∀ {n : Nat} {v : V} {d : PyData}, Rp M H n v d → Rp (fun a => M a ∨ a = p) H n v d := by
  intro n
  induction n with
  | zero =>
    intro v d h
    cases v <;> cases d <;> first
      | exact h
      | (exfalso; exact h)
  | succ n ih =>
    intro v d h
    cases v <;> cases d <;> first
      | exact h
      | (exfalso; exact h)
      | (obtain ⟨xs, h1, h2, h3, h4⟩ := h
         exact ⟨xs, h1, h2, Paired.mapP h3 fun a b z => ih z, fun z => z.elim h4 fun q => by
           rw [q, hp] at h1
           cases h1⟩)
theorem Rp.up {M : Addr → Prop} {H : Hp} : ∀ {n : Nat} {v : V} {d : PyData}, Rp M H n v d → Rp M H (n + 1) v d := by
  intro n
  induction n with
  | zero =>
    intro v d h
    cases v <;> cases d <;> first
      | exact h
      | (exfalso; exact h)
  | succ n ih =>
    intro v d h
    cases v <;> cases d <;> first
      | exact h
      | (exfalso; exact h)
      | (obtain ⟨xs, h1, h2, h3, h4⟩ := h
         exact ⟨xs, h1, h2, Paired.mapP h3 fun a b z => ih z, h4⟩)
theorem Rp.int {M : Addr → Prop} {H : Hp} {n : Nat} {i : Int} : Rp M H n (.int i) (.int i) := by
  cases n <;> exact (rfl : i = i)
theorem Rp.str {M : Addr → Prop} {H : Hp} {n : Nat} {i : Str} : Rp M H n (.str i) (.str i) := by
  cases n <;> exact (rfl : i = i)
theorem Rp.bl {M : Addr → Prop} {H : Hp} {n : Nat} {i : Bool} : Rp M H n (.bl i) (.bool i) := by
  cases n <;> exact (rfl : i = i)
theorem Rp.non {M : Addr → Prop} {H : Hp} {n : Nat} : Rp M H n .non .none := by
  cases n <;> exact trivial
def tyD : PyData → String
  | .none => "NoneType"
  | .bool _ => "bool"
  | .int _ => "int"
  | .str _ => "str"
  | .list _ => "list"
  | .tuple _ => "tuple"
  | .dict _ => "dict"
theorem Rp.ty {M : Addr → Prop} {K : PySem.W.Frag} {H : Hp} {n : Nat} {v : V} {d : PyData} (h : Rp M H n v d) : TyX K H v (.type (tyD d)) := by
  cases n <;> cases v <;> cases d <;> first
    | (exfalso; exact h)
    | exact .base (.non)
    | exact .base (.bl _)
    | exact .base (.int _)
    | exact .base (.str _)
    | (obtain ⟨xs, h1, _⟩ := h
       exact .base (.lst h1))
    | (obtain ⟨xs, h1, _⟩ := h
       exact .base (.tup h1))
/-- isinstance by the kind of data -/
def isA (T : String) : PyData → Bool
  | .none => T == "NoneType"
  | .bool _ => T == "bool" || T == "int"
  | .int _ => T == "int"
  | .str _ => T == "str"
  | .list _ => T == "list"
  | .tuple _ => T == "tuple"
  | .dict _ => T == "dict"
theorem kit_isA {T : String} (hT : T = "tuple" ∨ T = "list" ∨ T = "bool" ∨ T = "int" ∨ T = "str" ∨ T = "dict") (d : PyData) : kitB (tyD d) T = some (isA T d) := by
  rcases hT with rfl | rfl | rfl | rfl | rfl | rfl <;> cases d <;> (show kitB _ _ = some _) <;> (simp only [tyD, isA]) <;> decide +kernel
theorem ev_isi {M : Addr → Prop} {K : PySem.W.Frag} {σ : L2.St} {H : Hp} {te : TE} {v : V} {n : Nat} {d : PyData} {T : String} (h : Ev te σ H v) (r : Rp M H n v d) (hT : T = "tuple" ∨ T = "list" ∨ T = "bool" ∨ T = "int" ∨ T = "str" ∨ T = "dict") :
    Ev (tCB (rIsi K) (tCons te (tCons (tC (.ty T)) tNil))) σ H (.bl (isA T d)) := fun H1 e Q q =>
  h H1 e _ fun H2 e2 => ⟨v, .ty T, .type (tyD d), .type T, isA T d, rfl, .ty T, (r.ex (e.trans e2)).ty, kit_ty (kit_isA hT d), q H2 e2⟩
theorem walk_zipT {K : PySem.W.Frag} {a b : Addr} {xs ys : List V} {n : Nat} (hn : n = min xs.length ys.length) : Walk (RZ.ItzT K a b) n (fun H => SqT K H a xs ∧ SqT K H b ys) (YPair (fun i => xs[i]?) (fun i => ys[i]?)) := by
  subst hn
  refine ⟨fun i _ hi q => ?_, fun _ q => ⟨xs, ys, q.1, q.2, by omega⟩, fun i H v H' _ q y => ?_⟩
  · have h1 : i < xs.length := by omega
    have h2 : i < ys.length := by omega
    exact ⟨xs, ys, xs[i], ys[i], q.1, q.2, by simp [h1], by simp [h2]⟩
  · obtain ⟨T, x, z, h1, h2, h3, h4, h5⟩ := y
    exact ⟨T, x, z, h1, h2, h3, h4 xs q.1, h5 ys q.2⟩
theorem pair_at {α β : Type} {F : α → β → Prop} : ∀ {l : List α} {m : List β} {i : Nat} {a : α}, Paired F l m → l[i]? = some a → ∃ b, m[i]? = some b ∧ F a b
  | _, _, _, _, .nil, h => by simp at h
  | _, _, 0, _, .cons r _, h => by
    have e := Option.some.inj h
    subst e
    exact ⟨_, rfl, r⟩
  | _, _, i + 1, _, .cons _ t, h => pair_at (i := i) t h
theorem pair_len {α β : Type} {F : α → β → Prop} : ∀ {l : List α} {m : List β}, Paired F l m → l.length = m.length
  | _, _, .nil => rfl
  | _, _, .cons _ t => congrArg (· + 1) (pair_len t)
theorem yes_if {A B : Hp → Prop} {σ : L2.St} {H : Hp} (h : A H) : tYes σ H fun b H3 => if b = true then A H3 else B H3 := by
  show (if true = true then A H else B H)
  rw [if_pos rfl]
  exact h
theorem all_yes (n : Nat) : (List.replicate n true).all id = true := by
  induction n with
  | zero => rfl
  | succ n ih => rw [List.replicate_succ, List.all_cons, ih] <;> rfl
end Cm
set_option Elab.async false
set_option linter.all false
set_option maxRecDepth 100000
set_option maxHeartbeats 4000000
namespace Cm
open PySem PySem.Spec PyProof.Rows L2 Evl

/-! ### own exceptions with an __init__ that calls that of their base -/
/-- the base class S, by the name x: its __init__ is that of ValueError -/
structure Sup (K : PySem.W.Frag) (mg : Str → Option Value) (x : Str) (S : Addr) : Prop where
  g : mg x = some (.ref S)
  rd : ClX.CRead K S (.type "type")
  vv : PySem.W.findCls K (.ref S) (.type "type") "__init__" = some (.val (.builtin "ValueError.__init__"))
section
variable {X : Cx} {e : Expr} {es : List Expr} {te : TE} {ta : TA} {p1 p2 p pos : Pos}
theorem pe_sinit {x : Str} {S : Addr} {pl : Sem Bool} (hg : Gl X x) (s : Sup X.K X.mg x S) (ha : PA X (e :: es) ta)
    (hc : eval (.Call (.Attribute (.Name x p1) "__init__" p2) (e :: es) [] pos) X.env = (do
      let ov ← eval (.Name x p1) X.env
      standAt p2.atName
      let (f, first) ← holding [ov] (getMethod ov "__init__" pl)
      callWith pos f first (backTo pos (starEach (e :: es) X.env)) (backToKw pos (keywordEach [] X.env))) := by rfl)
    (he : starEach (e :: es) X.env = (false, eval e X.env) :: starEach es X.env := by rfl) (hpl : (backTo pos (starEach es X.env)).any (·.1) = false := by rfl) (hdb : (x == ("__debug__" : Str)) = false := by decide) :
    PE X (.Call (.Attribute (.Name x p1) "__init__" p2) (e :: es) [] pos) (tVeI X.K ta) := by
  refine ⟨fun pins sh σ H Q I h => ?_⟩
  refine PySem.W.methodCall_KW (ld_glob I hg s.g ?_ hdb) hc
  refine PySem.W.method_cls I.kIn s.rd.ga (PySem.W.cls_value I.kIn s.rd.rd s.vv (by decide +kernel) ?_)
  show wpAny _ _ (callWith pos (Value.builtin "ValueError.__init__") [] (backTo pos (starEach (e :: es) X.env)) []) _ _ _
  refine PyProof.Rows.callWith_method1 (thn (ha.run pos pins _ σ H _ (I.tok _) h) fun us s1 ⟨vs, H1, I1, r1, a, C, ws, ev, hl, T, ea, q⟩ => ?_) he hpl
  subst ev
  cases r1 with
  | @cons _ u0 _ ur ra rw' =>
    obtain rfl : u0 = Value.ref a := ra
    have hlen : ur.length ≤ sizeLine := by
      rw [← Paired.length rw', sizeLine_eq]
      omega
    exact oinit_ok T I1 ea hlen fun s' J => ⟨.non, H1, J, rfl, q⟩
/-- C(e, ..) as a value: the exception stands at a -/
def tMkV (C : Addr) (sp : Sp) (dvs : List V) (ta : TA) : TE := fun σ H Q => ta σ H fun vs H1 => vs.length ≤ 1000 ∧ ∀ a, H1 a = none → sp (.ref a :: (vs ++ dvs)) (upd H1 a (exo a C none))
  (fun v H2 => v = .non ∧ Q (.ref a) H2) (fun _ _ _ => False)
theorem pe_mkx {CX : CXT} {x : Str} {C fI : Addr} {k : Nat} {fd : FuncData} {ps : List Str} {sp : Sp} {ds : List Value} {dvs : List V} (T : OexC X.K C) (iC : PySem.W.findIn X.K (.ref C) "__init__" = some (some (.ref fI))) (tI : PySem.W.typeIn X.K (.ref fI) = some (.type "function"))
    (F1 : FnOk X.prog X.w X.K X.mg X.base CX k fI fd ps sp) (hr : Room (k + 1) X.A) (hb : Binds X.K fd ps ds) (hd : Vals dvs ds) (hx : Passes CX X (fun _ _ _ => False)) (hg : Gl X x) (hm : X.mg x = some (.ref C)) (ha : PA X (e :: es) ta)
    (hdb : (x == ("__debug__" : Str)) = false := by decide) (he : starEach (e :: es) X.env = (false, eval e X.env) :: starEach es X.env := by rfl) (hpl : (backTo pos (starEach es X.env)).any (·.1) = false := by rfl) :
    PE X (.Call (.Name x p) (e :: es) [] pos) (tMkV C sp dvs ta) := by
  refine ⟨fun pins s σ H Q I h => ?_⟩
  obtain ⟨nm, q, N, bs, bm, sn, sub, ab, col, dd, k0, k1, k2, k3, k5, hC, hbm⟩ := T.cls
  refine wpAny_Call_Name_kw (ld_glob I hg hm ?_ hdb)
  refine PySem.W.callWith_K (h₀ := X.base) I.ok.mod.kin T.kC (thn (ha.run pos pins s σ H _ I h) fun us s1 ⟨vs, H1, I1, r1, hz, q1⟩ => ⟨I1.kIn, ?_⟩) he hpl
  show wpAny _ _ (call (.ref C) us) _ _ _
  obtain ⟨hp, g, dr, tk, os⟩ := s1
  have hsz : hp.objs.size ≤ hp.objs.size + 1 := Nat.le_succ _
  have hn : H1 (hp.objs.size + 1) = none := I1.hok.fresh hsz
  have hq := q1 (hp.objs.size + 1) hn
  have kk : ∀ b o, hp.get? b = some o → ((hp.push (PySem.W.kdv_tup us)).push (PySem.HandSPX.excO C hp.objs.size)).get? b = some o := fun b o e => Heap.get?_push_of_some _ (Heap.get?_push_of_some _ e)
  have hget : ((hp.push (PySem.W.kdv_tup us)).push (PySem.HandSPX.excO C hp.objs.size)).get? (hp.objs.size + 1) = some (PySem.HandSPX.excO C hp.objs.size) := by heap_get
  have I2 : Inv X pins σ (upd H1 (hp.objs.size + 1) (exo (hp.objs.size + 1) C none)) ⟨(hp.push (PySem.W.kdv_tup us)).push (PySem.HandSPX.excO C hp.objs.size), g, dr, tk, os⟩ :=
    I1.laid (t' := tk) (a := hp.objs.size + 1) (o := exo (hp.objs.size + 1) C none) (h' := (hp.push (PySem.W.kdv_tup us)).push (PySem.HandSPX.excO C hp.objs.size)) kk hsz (exo_ok hget)
  have r2 : Vals (V.ref (hp.objs.size + 1) :: (vs ++ dvs)) (Value.ref (hp.objs.size + 1) :: (us ++ ds)) := .cons rfl (r1.append hd)
  have hl : (Value.ref (hp.objs.size + 1) :: us ++ ds).length = ps.length := by
    have e := r2.length
    rw [F1.len _ _ _ _ hq] at e
    exact e.symm
  have hus : us.length ≤ sizeLine := by
    rw [← Paired.length r1, sizeLine_eq]
    omega
  refine wpAny_call (PySem.HandSPX.call_own F.excBase_ValueError (fun Y => PySem.HandSPX.refsVE_contains Y bm hbm) (I1.kIn _ _ hC) (PySem.W.looks_findIn I1.kIn iC) (fun self => PySem.W.bind_fn I1.kIn self tI) hus
    (codeAny_mono (F1.run _ X.stack _ _ ⟨Value.ref (hp.objs.size + 1) :: us, []⟩ (Value.ref (hp.objs.size + 1) :: (us ++ ds)) _ _ (fun _ _ _ => False) (hr.make C us []) (I2.env0.make C us []) (hb _ (Value.ref (hp.objs.size + 1) :: us) I2.kIn hl) r2 hq) fun r s' hq' => ?_))
  cases r with
  | error er => exact hx pins σ _ _ er s' I2 hq'
  | ok fl =>
    cases fl with
    | ret u =>
      obtain ⟨v, H2, os2, bare2, un2, hok2, rv, ev, q2⟩ := hq'
      subst ev
      obtain ⟨h2, g2, d2, t2, os'⟩ := s'
      exact ⟨rv, .ref (hp.objs.size + 1), H2, I2.call' (ch := []) os2 un2 hok2 bare2 (fun b z => absurd z (by simp)), rfl, q2⟩
    | next => exact False.elim hq'
    | brk => exact False.elim hq'
    | cont => exact False.elim hq'
theorem pe_mkx0 {CX : CXT} {x : Str} {C fI : Addr} {k : Nat} {fd : FuncData} {ps : List Str} {sp : Sp} {ds : List Value} {dvs : List V} (T : OexC X.K C) (iC : PySem.W.findIn X.K (.ref C) "__init__" = some (some (.ref fI))) (tI : PySem.W.typeIn X.K (.ref fI) = some (.type "function"))
    (F1 : FnOk X.prog X.w X.K X.mg X.base CX k fI fd ps sp) (hr : Room (k + 1) X.A) (hb : Binds X.K fd ps ds) (hd : Vals dvs ds) (hx : Passes CX X (fun _ _ _ => False)) (hg : Gl X x) (hm : X.mg x = some (.ref C))
    (hdb : (x == ("__debug__" : Str)) = false := by decide) :
    PE X (.Call (.Name x p) [] [] pos) (tMkV C sp dvs tNil) := by
  refine ⟨fun pins s σ H Q I h => ?_⟩
  obtain ⟨nm, q, N, bs, bm, sn, sub, ab, col, dd, k0, k1, k2, k3, k5, hC, hbm⟩ := T.cls
  refine wpAny_Call_Name_kw (ld_glob I hg hm ?_ hdb)
  refine PySem.W.callWith_K0 I.kIn T.kC ?_
  show wpAny _ _ (call (.ref C) []) _ _ _
  obtain ⟨hz, q1⟩ := h
  obtain ⟨hp, g, dr, tk, os⟩ := s
  have r1 : Vals ([] : List V) ([] : List Value) := .nil
  have hsz : hp.objs.size ≤ hp.objs.size + 1 := Nat.le_succ _
  have hn : H (hp.objs.size + 1) = none := I.hok.fresh hsz
  have hq := q1 (hp.objs.size + 1) hn
  have kk : ∀ b o, hp.get? b = some o → ((hp.push (PySem.W.kdv_tup ([] : List Value))).push (PySem.HandSPX.excO C hp.objs.size)).get? b = some o := fun b o e => Heap.get?_push_of_some _ (Heap.get?_push_of_some _ e)
  have hget : ((hp.push (PySem.W.kdv_tup ([] : List Value))).push (PySem.HandSPX.excO C hp.objs.size)).get? (hp.objs.size + 1) = some (PySem.HandSPX.excO C hp.objs.size) := by heap_get
  have I2 : Inv X pins σ (upd H (hp.objs.size + 1) (exo (hp.objs.size + 1) C none)) ⟨(hp.push (PySem.W.kdv_tup ([] : List Value))).push (PySem.HandSPX.excO C hp.objs.size), g, dr, tk, os⟩ :=
    I.laid (t' := tk) (a := hp.objs.size + 1) (o := exo (hp.objs.size + 1) C none) (h' := (hp.push (PySem.W.kdv_tup ([] : List Value))).push (PySem.HandSPX.excO C hp.objs.size)) kk hsz (exo_ok hget)
  have r2 : Vals (V.ref (hp.objs.size + 1) :: (([] : List V) ++ dvs)) (Value.ref (hp.objs.size + 1) :: (([] : List Value) ++ ds)) := .cons rfl (r1.append hd)
  have hl : (Value.ref (hp.objs.size + 1) :: ([] : List Value) ++ ds).length = ps.length := by
    have e := r2.length
    rw [F1.len _ _ _ _ hq] at e
    exact e.symm
  have hus : ([] : List Value).length ≤ sizeLine := by
    exact Nat.zero_le _
  refine wpAny_call (PySem.HandSPX.call_own F.excBase_ValueError (fun Y => PySem.HandSPX.refsVE_contains Y bm hbm) (I.kIn _ _ hC) (PySem.W.looks_findIn I.kIn iC) (fun self => PySem.W.bind_fn I.kIn self tI) hus
    (codeAny_mono (F1.run _ X.stack _ _ ⟨Value.ref (hp.objs.size + 1) :: ([] : List Value), []⟩ (Value.ref (hp.objs.size + 1) :: (([] : List Value) ++ ds)) _ _ (fun _ _ _ => False) (hr.make C ([] : List Value) []) (I2.env0.make C ([] : List Value) []) (hb _ (Value.ref (hp.objs.size + 1) :: ([] : List Value)) I2.kIn hl) r2 hq) fun r s' hq' => ?_))
  cases r with
  | error er => exact hx pins σ _ _ er s' I2 hq'
  | ok fl =>
    cases fl with
    | ret u =>
      obtain ⟨v, H2, os2, bare2, un2, hok2, rv, ev, q2⟩ := hq'
      subst ev
      obtain ⟨h2, g2, d2, t2, os'⟩ := s'
      exact ⟨rv, .ref (hp.objs.size + 1), H2, I2.call' (ch := []) os2 un2 hok2 bare2 (fun b z => absurd z (by simp)), rfl, q2⟩
    | next => exact False.elim hq'
    | brk => exact False.elim hq'
    | cont => exact False.elim hq'
/-- X(), an own exception class without own __init__, as a value -/
structure Exc0 (K : PySem.W.Frag) (mg : Str → Option Value) (x : Str) (C : Addr) : Prop where
  q : PySem.W.excIn K C [.type "ValueError", .type "Exception", .type "BaseException", .type "object"] "ValueError.__new__" = true
  gC : mg x = some (.ref C)
  kC : PySem.W.keepIn K (.ref C) = true
theorem pe_exc0 {C : Addr} {x : Str} (E : Exc0 X.K X.mg x C) (hg : Gl X x := by rfl) (hdb : (x == ("__debug__" : Str)) = false := by decide) :
    PE X (.Call (.Name x p) [] [] pos) (fun _ H Q => ∀ a, H a = none → Q (.ref a) (upd H a (ExO (.ref C) a))) := by
  refine ⟨fun pins s σ H Q I h => ?_⟩
  refine wpAny_Call_Name_kw (ld_glob I hg E.gC ?_ hdb)
  refine PySem.W.callWith_K0 I.kIn E.kC ?_
  show wpAny _ _ (call (.ref C) []) _ _ _
  obtain ⟨bm, N, nm, qn, bs, hdct, sn, sub, ab, col, dd, k0, k1, k2, k3, k5, mN, hC, hN, hni, T⟩ := exc_obj I.kIn E.q
  refine wpAny_call_exc_subT PySem.F.excBase_ValueError T hC hN hni (fun h' a hm => ?_) (by show 0 ≤ sizeLine; exact Nat.zero_le _)
  have hn : H a = none := I.hok.gone hm.new
  obtain ⟨t, ht, _, _⟩ := hm.there
  exact ⟨.ref a, upd H a (ExO (.ref C) a), I.laidN hm.keeps hm.new hn (exO_ok ht ⟨rfl, rfl⟩ rfl rfl rfl (show 4 < 6 by decide)), rfl, h a hn⟩
/-- err.f, err an exception that stands in the heap -/
def tXat (K : PySem.W.Frag) (f : Str) (te : TE) : TE := fun σ H Q => te σ H fun x H1 => ∃ (a C d : Addr) (fs : List (Str × V)) (v : V), x = .ref a ∧ H1 a = some (exo a C (some d)) ∧ H1 d = some (exd d fs) ∧ fs.lookup f = some v ∧ XfC K C ∧ PySem.W.findIn K (.ref C) f = some none ∧ Q v H1
theorem pe_xat {n : Str} (he : PE X e te) (hb : attributeBase e n X.env (eval e X.env) = eval e X.env := by rfl) : PE X (.Attribute e n pos) (tXat X.K n te) := by
  refine ⟨fun pins s σ H Q I h => ?_⟩
  refine attr_of hb (thn (he.run pins s σ H _ I h) fun u s1 hh => ?_)
  obtain ⟨x, H1, I1, rx, a, C, dd, fs, v, ex, ea, ed, l, T, hno, q⟩ := hh
  subst ex
  obtain rfl : u = Value.ref a := rx
  obtain ⟨t1, ho⟩ := exo_at I1.hok ea
  obtain ⟨mA, hns, hr⟩ := exd_at I1.hok ed
  obtain ⟨od, hod, hl⟩ := lookIn_ns hns
  obtain ⟨u, hu, ru⟩ := RelO.some_of (v := v) (o := mA n) (by rw [← l]; exact hr n)
  have J : PySem.W.InstAt s1.heap a { cls := .ref C, dict := some dd, data := .fields #[.ref t1, .none, .none, .none, .bool false, .none] } C (some od) := ⟨ho, rfl, rfl, hod⟩
  exact HandSPX.exc_get I1.kIn J T.ga T.gg T.exC (PySem.W.findObj_own T.hdC hno rfl (by rw [hl, hu])) (handed_of ru) ⟨v, H1, I1.tok _, ru, q⟩
/-- isinstance(err, c) -/
inductive ExAt (H : Hp) (a C : Addr) : Prop where
  | own (d : Option Addr) (h : H a = some (exo a C d)) (hd : ∀ dd, d = some dd → ∃ fs, H dd = some (exd dd fs))
  | bare (h : H a = some (ExO (.ref C) a))
def rIsX (K : PySem.W.Frag) : List V → Hp → VK → Prop := fun xs H Q => ∃ (a C : Addr) (c : V) (cv : Value) (b : Bool), xs = [.ref a, c] ∧ ExAt H a C ∧ L2.ExcC K C ∧ ClsV c cv ∧ PySem.W.kitOne K (.ref C) cv = some b ∧ Q (.bl b) H
theorem call_isx : CallR X (.builtin "isinstance") (rIsX X.K) := by
  intro pins s σ H xs us Q I r h
  obtain ⟨a, C, c, cv, b, rfl, hx, T, k, ek, q⟩ := h
  obtain ⟨u1, u2, rfl, r1, r2⟩ := vals2 r
  cases (show u1 = Value.ref a from r1)
  have e2 := k.eq r2
  subst e2
  have hcl : (PySem.W.clsIn X.K C).isSome = true := by
    obtain ⟨cd, hc, _⟩ := PySem.W.any_some T.hd
    rw [hc] <;> rfl
  have fin : ∀ (ox : Obj) (od : Option Obj), PySem.W.InstAt s.heap a ox C od → wpAny (model X.prog X.w) X.A (call (.builtin "isinstance") [Value.ref a, u2]) (EP X pins σ Q) X.xe s := fun ox od J =>
    PySem.W.kia_one (PySem.W.kitx_exc hcl T.hg T.hk T.hs T.ha T.hn T.ht T.hm) I.kIn J ek (fun z => nomatch z) fun tk => ⟨.bl b, H, I.tok tk, rfl, q⟩
  rcases hx with ⟨d, h, hd⟩ | h
  · obtain ⟨t1, ho⟩ := exo_at I.hok h
    cases d with
    | none => exact fin _ none ⟨ho, rfl, rfl, trivial⟩
    | some dd =>
      obtain ⟨fs, ed⟩ := hd dd rfl
      obtain ⟨mA, hns, _⟩ := exd_at I.hok ed
      obtain ⟨od, hod, _⟩ := lookIn_ns hns
      exact fin _ (some od) ⟨ho, rfl, rfl, hod⟩
  · obtain ⟨⟨oe, vs, ho, hz, hd, _⟩, _, _⟩ := I.hok a _ h
    obtain ⟨oc, od, oda, osl⟩ := oe
    obtain ⟨h1, h2⟩ := hz
    dsimp only at h1 h2 hd
    subst h1 h2 hd
    exact fin _ none ⟨ho, rfl, rfl, trivial⟩
/-! ### {t} in an f-string, t a tuple of small ints -/
def iText (i : Int) : Str := Str.ofString (toString i)
theorem repr_allI {prog : Program} {w : World} : ∀ {l : List Int} {its : List Value}, Vals (l.map V.int) its → (∀ y ∈ l, y.natAbs.log2 < 1920) → ReprAll prog w its (l.map iText)
  | [], _, r, _ => by
    cases r
    exact .nil
  | y :: l, _, r, h => by
    cases r with
    | cons r1 r2 =>
      obtain ⟨t, rfl⟩ := r1
      exact .cons (ReprIs.int t (h y List.mem_cons_self)) (repr_allI r2 fun z hz => h z (List.mem_cons_of_mem _ hz))
theorem piledI : ∀ l : List Int, (∀ y ∈ l, y.natAbs.log2 < 1920) → piled (l.map iText) ≤ 2000 * l.length
  | [], _ => Nat.zero_le _
  | y :: l, h => by
    have h1 : (iText y).length ≤ 1921 := PyProof.Rows.int_text_len_1921 (h y List.mem_cons_self)
    have h2 := piledI l fun z hz => h z (List.mem_cons_of_mem _ hz)
    rw [List.map_cons, piled_cons, List.length_cons]
    omega
def tFmtI (K : PySem.W.Frag) (te : TE) : TE := fun σ H Q => te σ H fun x H1 => ∃ (a : Addr) (l : List Int), x = .ref a ∧ SqT K H1 a (l.map V.int) ∧ (∀ y ∈ l, y.natAbs.log2 < 1920) ∧ l.length ≤ 1000 ∧ ∀ m : Str, m.length ≤ 2000 * l.length + 7 → Q (.str m) H1
theorem pe_fmtI {k : Nat} (hr : Room k X.A) (he : PE X e te) : PE X (.FormattedValue e (-1) none pos) (tFmtI X.K te) := by
  refine ⟨fun pins s σ H Q I h => ?_⟩
  refine wpAny_FormattedValue_plain (thn (he.run pins s σ H _ I h) fun v s1 hv => ?_)
  obtain ⟨x, H1, I1, r1, a, l, rfl, ht, hc, hz, q⟩ := hv
  cases r1
  obtain ⟨its, rv, ⟨o, ho, hcl, n, hd⟩, _⟩ := I1.tuple ht
  have hp := piledI l hc
  have htx := fmt_text (l.map iText)
  have hu := hr.units
  have sl : sizeLine = 16777216 := sizeLine_eq
  exact fmt_tuple (ts := l.map iText) (by omega) ho hcl hd (repr_allI rv hc) (by omega) fun m u tk hm => ⟨.str m, H1, I1.tok _, ⟨u, rfl⟩, q m (by omega)⟩
end
end Cm
set_option Elab.async false
set_option linter.all false
set_option maxRecDepth 100000
set_option maxHeartbeats 4000000
namespace Cm
open PySem PySem.Spec PyProof.Rows L2 Evl

/-! ### what evaluates to something of which a lasting word holds -/
abbrev VP := V → Hp → Prop
def Mono (A : VP) : Prop := ∀ v H H', Ex H H' → A v H → A v H'
def EvP (te : TE) (σ : L2.St) (H : Hp) (A : VP) : Prop := ∀ H1, Ex H H1 → ∀ Q : VK, (∀ v H2, Ex H1 H2 → A v H2 → Q v H2) → te σ H1 Q
def EvAP (ta : TA) (σ : L2.St) (H : Hp) (As : List VP) : Prop := ∀ H1, Ex H H1 → ∀ Q : List V → Hp → Prop, (∀ vs H2, Ex H1 H2 → Paired (fun (A : VP) v => A v H2) As vs → Q vs H2) → ta σ H1 Q
def EvLP (te : TE) (σ : L2.St) (H : Hp) (As : List VP) : Prop := ∀ H1, Ex H H1 → ∀ Q : VK, (∀ p vs H2, H1 p = none → Ex H1 H2 → H2 p = some (.lst vs) → Paired (fun (A : VP) v => A v H2) As vs → Q (.ref p) H2) → te σ H1 Q
/-- data -/
def Da (n : Nat) (d : PyData) : VP := fun v H => Rp M0 H n v d
theorem Da.mono (n : Nat) (d : PyData) : Mono (Da n d) := fun _ _ _ e h => Rp.ex e h
/-- a value itself -/
def Eq' (x : V) : VP := fun v _ => v = x
theorem Eq'.mono (x : V) : Mono (Eq' x) := fun _ _ _ _ h => h
def Monos (As : List VP) : Prop := ∀ A ∈ As, Mono A
theorem Monos.nil : Monos [] := fun _ h => absurd h List.not_mem_nil
theorem Monos.cons {A : VP} {As : List VP} (h : Mono A) (t : Monos As) : Monos (A :: As) := fun B hB => by
  rcases List.mem_cons.mp hB with e | e
  · rw [e]
    exact h
  · exact t B e
theorem Monos.app {As Bs : List VP} (h : Monos As) (t : Monos Bs) : Monos (As ++ Bs) := fun B hB => by
  rcases List.mem_append.mp hB with e | e
  · exact h B e
  · exact t B e
theorem Monos.da (n : Nat) (ds : List PyData) : Monos (ds.map (Da n)) := fun A hA => by
  obtain ⟨d, _, rfl⟩ := List.mem_map.mp hA
  exact Da.mono n d
theorem pairs_ex {As : List VP} {vs : List V} {H H' : Hp} (m : Monos As) (e : Ex H H') (h : Paired (fun (A : VP) v => A v H) As vs) : Paired (fun (A : VP) v => A v H') As vs := by
  induction h with
  | nil => exact .nil
  | @cons A v As vs h1 h2 ih => exact .cons (m A List.mem_cons_self _ _ _ e h1) (ih fun B hB => m B (List.mem_cons_of_mem _ hB))
theorem pairs_app {α β : Type} {F : α → β → Prop} {as bs : List α} {us vs : List β} (h : Paired F as us) (t : Paired F bs vs) : Paired F (as ++ bs) (us ++ vs) := by
  induction h with
  | nil => exact t
  | cons h1 h2 ih => exact .cons h1 ih
theorem pairs_da {H : Hp} {n : Nat} : ∀ {ds : List PyData} {vs : List V}, Paired (fun (A : VP) v => A v H) (ds.map (Da n)) vs → Paired (Rp M0 H n) vs ds
  | [], _, h => by
    cases h
    exact .nil
  | d :: ds, _, h => by
    cases h with
    | cons h1 h2 => exact .cons h1 (pairs_da h2)
theorem pairs_len {α β : Type} {F : α → β → Prop} {as : List α} {us : List β} (h : Paired F as us) : as.length = us.length := pair_len h
section
variable {K : PySem.W.Frag} {σ : L2.St} {H H' : Hp} {te tf : TE} {ta : TA} {A B : VP} {As Bs : List VP} {v : V}
theorem EvP.ex (h : EvP te σ H A) (e : Ex H H') : EvP te σ H' A := fun H1 e1 Q q => h H1 (e.trans e1) Q q
theorem EvP.imp (h : EvP te σ H A) (i : ∀ v H', A v H' → B v H') : EvP te σ H B := fun H1 e1 Q q => h H1 e1 Q fun v H2 e2 a => q v H2 e2 (i v H2 a)
theorem evp_of (h : Ev te σ H v) (a : A v H) (m : Mono A) : EvP te σ H A := fun H1 e1 Q q => h H1 e1 Q fun H2 e2 => q v H2 e2 (m _ _ _ (e1.trans e2) a)
theorem evp_var {i : Nat} (h : σ[i]? = some (some v)) (a : A v H) (m : Mono A) : EvP (tVar i) σ H A := evp_of (ev_var h) a m
theorem evp_str {x : Str} {n : Nat} : EvP (tC (.str x)) σ H (Da n (.str x)) := evp_of ev_c Rp.str (Da.mono _ _)
theorem evp_int {x : Int} {n : Nat} : EvP (tC (.int x)) σ H (Da n (.int x)) := evp_of ev_c Rp.int (Da.mono _ _)
theorem eap_nil : EvAP tNil σ H [] := fun H1 _ _ q => q [] H1 (Ex.refl H1) .nil
theorem eap_cons {tr : TA} (h : EvP te σ H A) (m : Mono A) (hr : EvAP tr σ H As) : EvAP (tCons te tr) σ H (A :: As) := fun H1 e Q q =>
  h H1 e _ fun v H2 e2 a => hr H2 (e.trans e2) _ fun vs H3 e3 as => q _ H3 (e2.trans e3) (.cons (m _ _ _ e3 a) as)
theorem evp_tup {n : Nat} {ds : List PyData} (h : EvAP ta σ H (ds.map (Da n))) (hl : ds.length ≤ 1000) : EvP (tTup ta) σ H (Da (n + 1) (.tuple ds)) := fun H1 e Q q =>
  h H1 e _ fun vs H2 e2 as => by
    have hv : vs.length = ds.length := by
      have z := pairs_len as
      rw [List.length_map] at z
      exact z.symm
    exact ⟨sz_of (by omega), fun p hp => q _ _ (e2.trans (Ex.new hp)) ⟨vs, upd_same, by omega, Paired.mapP (pairs_da as) fun _ _ z => z.ex (Ex.new hp), fun z => z⟩⟩
theorem elp_lst (h : EvAP ta σ H As) (m : Monos As) (hl : As.length ≤ 1000) : EvLP (tLst ta) σ H As := fun H1 e Q q =>
  h H1 e _ fun vs H2 e2 as => by
    have hv := pairs_len as
    exact ⟨sz_of (by omega), fun p hp => q _ _ _ (fresh_back e2 hp) (e2.trans (Ex.new hp)) upd_same (pairs_ex m (Ex.new hp) as)⟩
theorem elp_cat (h1 : EvLP te σ H As) (h2 : EvLP tf σ H Bs) (m1 : Monos As) (m2 : Monos Bs) (hl : As.length + Bs.length ≤ 1000) : EvLP (tOp rCat te tf) σ H (As ++ Bs) := fun H1 e Q q =>
  h1 H1 e _ fun p vs H2 n2 e2 l2 as => h2 H2 (e.trans e2) _ fun p' ws H3 n3 e3 l3 bs => by
    have hv := pairs_len as
    have hw := pairs_len bs
    refine ⟨p, p', vs, ws, rfl, rfl, e3 _ _ l2, l3, sz_of (by omega), fun r hr => ?_⟩
    exact q r _ _ (fresh_back (e2.trans e3) hr) (e2.trans (e3.trans (Ex.new hr))) upd_same (pairs_app (pairs_ex m1 (e3.trans (Ex.new hr)) as) (pairs_ex m2 (Ex.new hr) bs))
/-- the first list stands there -/
theorem elp_catV {p : Addr} {vs : List V} (hv : Ev te σ H (.ref p)) (hp : H p = some (.lst vs)) (as : Paired (fun (A : VP) v => A v H) As vs) (h2 : EvLP tf σ H Bs) (m1 : Monos As) (m2 : Monos Bs) (hl : As.length + Bs.length ≤ 1000) : EvLP (tOp rCat te tf) σ H (As ++ Bs) := fun H1 e Q q =>
  hv H1 e _ fun H2 e2 => h2 H2 (e.trans e2) _ fun p' ws H3 n3 e3 l3 bs => by
    have hv := pairs_len as
    have hw := pairs_len bs
    have e13 := (e.trans e2).trans e3
    refine ⟨p, p', vs, ws, rfl, rfl, e13 _ _ hp, l3, sz_of (by omega), fun r hr => ?_⟩
    exact q r _ _ (fresh_back (e2.trans e3) hr) (e2.trans (e3.trans (Ex.new hr))) upd_same (pairs_app (pairs_ex m1 (e13.trans (Ex.new hr)) as) (pairs_ex m2 (Ex.new hr) bs))
theorem EvLP.da {n : Nat} {ds : List PyData} (h : EvLP te σ H (ds.map (Da n))) (hl : ds.length ≤ 1000) : EvP te σ H (Da (n + 1) (.list ds)) := fun H1 e Q q =>
  h H1 e Q fun p vs H2 _ e2 l as => q _ _ e2 ⟨vs, l, by
    have z := pairs_len as
    rw [List.length_map] at z
    omega, pairs_da as, fun z => z⟩
variable {D : Ends} {tz : TS}
theorem q_asgP {i : Nat} (h : EvP te σ H A) (k : ∀ v H1, Ex H H1 → A v H1 → tz D (σ.set i (some v)) H1) : tSeq (tAsg te (gName i)) tz D σ H := h H (Ex.refl H) _ fun v H1 e a => k v H1 e a
theorem q_asgLP {i : Nat} (h : EvLP te σ H As) (k : ∀ p vs H1, Ex H H1 → H1 p = some (.lst vs) → Paired (fun (A : VP) v => A v H1) As vs → tz D (σ.set i (some (.ref p))) H1) : tSeq (tAsg te (gName i)) tz D σ H := h H (Ex.refl H) _ fun p vs H1 _ e l as => k p vs H1 e l as
theorem s_retP (h : EvP te σ H A) (k : ∀ v H1, Ex H H1 → A v H1 → D.rt v H1) : tRet te D σ H := h H (Ex.refl H) _ k
theorem s_retLP (h : EvLP te σ H As) (k : ∀ p vs H1, Ex H H1 → H1 p = some (.lst vs) → Paired (fun (A : VP) v => A v H1) As vs → D.rt (.ref p) H1) : tRet te D σ H := h H (Ex.refl H) _ fun p vs H1 _ e l as => k p vs H1 e l as
end

/-! ### own exceptions: what is known of a class, and its promise -/
/-- an own exception class (with an __init__ of its own) over the base S -/
structure XC (K : PySem.W.Frag) (C S : Addr) : Prop where
  lk : ∃ nm q N bs sn sub ab col dd k0 k1 k2 k3 k5, K.lookup C = some (excClassObj nm q C N bs [.ref S, .type "ValueError", .type "Exception", .type "BaseException", .type "object"] true sn sub ab col dd k0 k1 k2 k3 k5 "ValueError.__new__")
  sa : PySem.W.findIn K (.ref C) "__setattr__" = some (some (.builtin "object.__setattr__"))
  ga : PySem.W.findIn K (.ref C) "__getattribute__" = some (some (.builtin "BaseException.__getattribute__"))
  gg : PySem.W.findIn K (.ref C) "__getattr__" = some none
  ca : PySem.W.findIn K (.ref C) "__class__" = some (some (.builtin "object.__class__"))
  kC : PySem.W.keepIn K (.ref C) = true
theorem XC.cls {K : PySem.W.Frag} {C S : Addr} (x : XC K C S) : ∃ cd : ClassData, PySem.W.clsIn K C = some cd ∧ cd.mro = [.ref C, .ref S, .type "ValueError", .type "Exception", .type "BaseException", .type "object"] ∧ cd.hasDict = true := by
  obtain ⟨nm, q, N, bs, sn, sub, ab, col, dd, k0, k1, k2, k3, k5, h⟩ := x.lk
  refine ⟨{ name := nm, bases := bs, mro := .ref C :: [.ref S, .type "ValueError", .type "Exception", .type "BaseException", .type "object"], ns := N, qualname := q, hasDict := true, slotNames := sn, subclasses := sub, abstract := ab, collection := col, hasDel := false }, ?_, rfl, rfl⟩
  unfold PySem.W.clsIn
  rw [h] <;> rfl
theorem XC.mro {K : PySem.W.Frag} {C S : Addr} (x : XC K C S) (b : Value) : PySem.W.mroIn K C b = some ([Value.ref C, .ref S, .type "ValueError", .type "Exception", .type "BaseException", .type "object"].contains b) := by
  obtain ⟨cd, h, hm, _⟩ := x.cls
  unfold PySem.W.mroIn
  rw [h, Option.bind_some, hm]
  rfl
theorem XC.ty {K : PySem.W.Frag} {C S : Addr} (x : XC K C S) : PySem.W.typeIn K (.ref C) = some (.type "type") := by
  obtain ⟨nm, q, N, bs, sn, sub, ab, col, dd, k0, k1, k2, k3, k5, h⟩ := x.lk
  show (K.lookup C).map (·.cls) = _
  rw [h] <;> rfl
theorem XC.hd {K : PySem.W.Frag} {C S : Addr} (x : XC K C S) : PySem.W.hasDictIn K C = true := by
  obtain ⟨cd, h, _, hd⟩ := x.cls
  unfold PySem.W.hasDictIn
  rw [h]
  exact hd
theorem XC.exC {K : PySem.W.Frag} {C S : Addr} (x : XC K C S) : PySem.W.subIn K (.ref C) (.type "BaseException") = some true := by
  show PySem.W.mroIn K C _ = _
  rw [x.mro]
  simp
theorem XC.oex {K : PySem.W.Frag} {C S : Addr} (x : XC K C S) : OexC K C := by
  obtain ⟨nm, q, N, bs, sn, sub, ab, col, dd, k0, k1, k2, k3, k5, h⟩ := x.lk
  exact ⟨⟨nm, q, N, bs, _, sn, sub, ab, col, dd, k0, k1, k2, k3, k5, h, rfl⟩, x.sa, x.exC, x.ty, x.kC⟩
theorem XC.xf {K : PySem.W.Frag} {C S : Addr} (x : XC K C S) : XfC K C := ⟨x.ga, x.gg, x.exC, x.hd⟩
/-- object.__class__ is what it is -/
structure Obc (K : PySem.W.Frag) : Prop where
  hn : PySem.W.specialIn K (.builtin "object.__class__") "__get__" = some (some (.builtin "getset_descriptor.__get__"))
  ht : PySem.W.takesIn K (.builtin "object.__class__") = some true
theorem XC.ec {K : PySem.W.Frag} {C S : Addr} (x : XC K C S) (o : Obc K) : L2.ExcC K C := ⟨x.ga, x.gg, x.exC, x.hd, x.ca, o.hn, o.ht, by
  rw [x.mro]
  simp⟩
theorem XC.kit {K : PySem.W.Frag} {C S D T : Addr} (x : XC K C S) (y : XC K D T) : PySem.W.kitOne K (.ref C) (.ref D) = some (decide (D = C) || decide (D = S)) := by
  unfold PySem.W.kitOne PySem.W.kitCls
  by_cases h : C = D
  · subst h
    simp
  · obtain ⟨cd, hc, _⟩ := y.cls
    have e1 : ((PySem.W.clsIn K D).isSome && PySem.W.typeIn K (.ref D) == some (.type "type")) = true := by rw [hc, y.ty] <;> rfl
    rw [if_neg (by simpa using h)]
    show (if _ then _ else _) = _
    rw [if_pos e1]
    show PySem.W.mroIn K C _ = _
    rw [x.mro]
    have h' : ¬ D = C := fun z => h z.symm
    by_cases h2 : D = S
    · simp [h', h2]
    · simp [h', h2]
theorem XC.kitTy {K : PySem.W.Frag} {C S : Addr} (x : XC K C S) : PySem.W.kitOne K (.ref C) (.type "ValueError") = some true := by
  unfold PySem.W.kitOne PySem.W.kitCls
  rw [if_neg (by simp)]
  show (if PySem.W.kitMeta "ValueError" = true then _ else _) = _
  rw [if_pos (by decide +kernel)]
  show PySem.W.mroIn K C _ = _
  rw [x.mro]
  simp
/-- what may be handed to the errors: any shallow data; a text; an int; a tuple of ints -/
def okK : Nat → PyData → Prop
  | 1, .str z => z.length ≤ 100
  | 2, .int i => i.natAbs.log2 < 1920
  | 3, .tuple ds => ds.length ≤ 100 ∧ ∃ l : List Int, ds = l.map .int ∧ ∀ y ∈ l, y.natAbs.log2 < 1920
  | 0, _ => True
  | _, _ => False
/-- what a made error holds -/
def Held (C : Addr) (names : List Str) (ds : List PyData) : VP := fun v H => ∃ a d fs, v = .ref a ∧ H a = some (exo a C d) ∧ (∀ dd, d = some dd → H dd = some (exd dd fs)) ∧
  ∀ (i : Nat) (nm : Str) (e : PyData), names[i]? = some nm → ds[i]? = some e → (∃ dd, d = some dd) ∧ ∃ u, fs.lookup nm = some u ∧ Rp M0 H 1 u e
theorem Held.mono (C : Addr) (names : List Str) (ds : List PyData) : Mono (Held C names ds) := fun v H H' e h => by
  obtain ⟨a, d, fs, rfl, h1, h2, h3⟩ := h
  refine ⟨a, d, fs, rfl, e _ _ h1, fun dd hd => e _ _ (h2 dd hd), fun i nm dd hn hd => ?_⟩
  obtain ⟨hs, u, hu, r⟩ := h3 i nm dd hn hd
  exact ⟨hs, u, hu, r.ex e⟩
def spE (C : Addr) (names : List Str) (ks : List Nat) : Sp := fun vs H Q _ => ∃ (a : Addr) (args : List V) (ds : List PyData), vs = .ref a :: args ∧ H a = some (exo a C none) ∧ Paired (Rp M0 H 1) args ds ∧ Paired okK ks ds ∧ args.length = names.length ∧
  ∀ H', SmB a H H' → Held C names ds (.ref a) H' → Q .non H'
/-- such a class with its __init__ -/
structure XD (P : Program) (w : World) (K : PySem.W.Frag) (mg : Str → Option Value) (base : Heap) (k : Nat) (x : Str) (C S : Addr) (ps : List Str) (sp : Sp) where
  fI : Addr
  fd : FuncData
  xc : XC K C S
  T : OexC K C
  iC : PySem.W.findIn K (.ref C) "__init__" = some (some (.ref fI))
  tI : PySem.W.typeIn K (.ref fI) = some (.type "function")
  G : FnOk P w K mg base CX0 k fI fd ps sp
  b : Binds K fd ps []
  gC : mg x = some (.ref C)
theorem evp_mk {K : PySem.W.Frag} {C : Addr} {names : List Str} {ks : List Nat} {σ : L2.St} {H : Hp} {ta : TA} {ds : List PyData} (h : EvAP ta σ H (ds.map (Da 1))) (ok : Paired okK ks ds) (hl : ds.length = names.length) (h9 : ds.length ≤ 9) :
    EvP (tMkV C (spE C names ks) [] ta) σ H (Held C names ds) := fun H1 e Q q =>
  h H1 e _ fun vs H2 e2 as => by
    have hv := pairs_len as
    rw [List.length_map] at hv
    refine ⟨by omega, fun a ha => ?_⟩
    rw [List.append_nil]
    refine ⟨a, vs, ds, rfl, upd_same, Paired.mapP (pairs_da as) fun _ _ z => z.ex (Ex.new ha), ok, by omega, fun H' s h => ⟨rfl, q _ _ (e2.trans fun b o hb => ?_) h⟩⟩
    have nb : b ≠ a := ne_of_none hb ha
    refine s b o nb ?_
    rw [upd_ne nb]
    exact hb
/-- text parts -/
def PartOk (t : TE) (σ : L2.St) (H : Hp) : Prop := ∀ Q : VK, (∀ y : Str, y.length ≤ 3000000 → Q (.str y) H) → t σ H Q
theorem js_ok {σ : L2.St} {H : Hp} {Q : Str → Hp → Prop} (q : ∀ out, Q out H) : ∀ (ts : List TE) (acc : Str), (∀ t ∈ ts, PartOk t σ H) → acc.length + 3000000 * ts.length ≤ 16777216 → tJs ts acc σ H Q
  | [], acc, _, _ => q acc
  | t :: ts, acc, h, hl => h t List.mem_cons_self _ fun y hy => by
    rw [List.length_cons] at hl
    have e := strLen_append acc y
    refine ⟨y, rfl, ?_, js_ok q ts (acc ++ y) (fun u hu => h u (List.mem_cons_of_mem _ hu)) ?_⟩
    · rw [e, sizeLine_eq]
      omega
    · rw [e]
      omega
theorem part_c {σ : L2.St} {H : Hp} {x : Str} (h : x.length ≤ 3000000) : PartOk (tC (.str x)) σ H := fun Q q => q x h
theorem part_s {σ : L2.St} {H : Hp} {i : Nat} {x : Str} (hs : σ[i]? = some (some (.str x))) (h : x.length ≤ 100) : PartOk (tFmt (tVar i)) σ H := fun Q q => ⟨_, hs, .inl ⟨x, rfl, Nat.le_trans h (by decide), q x (by omega)⟩⟩
theorem part_i {σ : L2.St} {H : Hp} {i : Nat} {x : Int} (hs : σ[i]? = some (some (.int x))) (h : x.natAbs.log2 < 1920) : PartOk (tFmt (tVar i)) σ H := fun Q q => ⟨_, hs, .inr ⟨x, rfl, h, q _ (Nat.le_trans (PyProof.Rows.int_text_len_1921 h) (by decide))⟩⟩
theorem part_t {K : PySem.W.Frag} {σ : L2.St} {H : Hp} {i : Nat} {a : Addr} {l : List Int} (hs : σ[i]? = some (some (.ref a))) (ht : H a = some (.tup (l.map V.int))) (h : ∀ y ∈ l, y.natAbs.log2 < 1920) (hl : l.length ≤ 100) : PartOk (tFmtI K (tVar i)) σ H :=
  fun Q q => ⟨_, hs, a, l, rfl, st_of ht, h, by omega, fun m hm => q m (by omega)⟩
theorem ints_of {H : Hp} {n : Nat} : ∀ {l : List Int} {xs : List V}, Paired (Rp M0 H n) xs (l.map .int) → xs = l.map V.int
  | [], _, h => by
    cases h
    rfl
  | y :: l, _, h => by
    cases h with
    | @cons a b l1 l2 h1 h2 =>
      have e : a = V.int y := by
        cases n <;> cases a <;> first
          | exact congrArg V.int h1
          | (exfalso; exact h1)
      rw [e, ints_of h2]
      rfl
end Cm
set_option Elab.async false
set_option linter.all false
set_option maxRecDepth 100000
set_option maxHeartbeats 4000000
namespace Cm
open PySem PySem.Spec PyProof.Rows L2 Evl
theorem Rp.addM {M N : Addr → Prop} {H : Hp} (hN : ∀ a, N a → M a ∨ H a = none) : ∀ {n : Nat} {v : V} {d : PyData}, Rp M H n v d → Rp N H n v d := by
  intro n
  induction n with
  | zero =>
    intro v d h
    cases v <;> cases d <;> first
      | exact h
      | (exfalso; exact h)
  | succ n ih =>
    intro v d h
    cases v <;> cases d <;> first
      | exact h
      | (exfalso; exact h)
      | (obtain ⟨xs, h1, h2, h3, h4⟩ := h
         exact ⟨xs, h1, h2, Paired.mapP h3 fun a b z => ih z, fun z => (hN _ z).elim h4 fun q => by
           rw [q] at h1
           cases h1⟩)
/-- [e for x in xs], e giving the data ds -/
theorem lc_map {J : It} {nn : Nat} {G : Hp → Prop} {xs : List V} (w : Walk J nn G (YAt xs)) (hnn : nn = xs.length) {j : Nat} {vs : List Nat} {σ : L2.St} {te : TE} {H1 : Hp} {M : Addr → Prop} {n : Nat} {ds : List PyData} (hG : ∀ H', Ex H1 H' → G H')
    (hM : ∀ a, M a → H1 a ≠ none) (hlen : xs.length ≤ 1000) (hds : ds.length = xs.length) (hw : ∀ x, wipe ((wipe σ vs).set j (some x)) vs = wipe σ vs)
    (he : ∀ (i : Nat) (x : V) (d : PyData) (H' : Hp) (M' : Addr → Prop), xs[i]? = some x → ds[i]? = some d → Ex H1 H' → (∀ a, M a → M' a) → (∀ a, M' a → H' a ≠ none) → (∀ a, M' a → M a ∨ H1 a = none) →
      ∀ Q : VK, (∀ v H2, Ex H' H2 → Rp M' H2 n v d → Q v H2) → te ((wipe σ vs).set j (some x)) H' Q)
    {Q : VK} (k : ∀ D H' acc, H1 D = none → Ex H1 H' → H' D = some (.lst acc) → acc.length = xs.length → Paired (Rp M H' n) acc ds → ¬ M D → Q (.ref D) H') :
    ∀ D, H1 D = none → ∃ W : Nat → Nat → Hp → Prop, (∃ m, W 0 m (upd H1 D (.lst []))) ∧ ∀ i m H, W i m H →
      (J.stop i H ∧ Q (.ref D) H) ∨ (J.go i H ∧ ∃ Nx : Hp → Prop, (∀ H', Nx H' → ∃ m', m' < m ∧ W (i + 1) m' H') ∧ ∀ x H', J.yld i H x H' → gName j x (wipe σ vs) H' fun σ2 H2 => wipe σ2 vs = wipe σ vs ∧ tYes σ2 H2 fun b H3 =>
        if b = true then te σ2 H3 fun y H4 => ∃ acc, H4 D = some (.lst acc) ∧ acc.length < sizeLine ∧ Nx (upd H4 D (.lst (acc ++ [y]))) else Nx H3) := by
  subst hnn
  intro D hD
  have hMD : ¬ M D := fun z => hM D z hD
  refine lc_it w (fun i H2 => Ex H1 H2 ∧ ∃ acc, H2 D = some (.lst acc) ∧ acc.length = i ∧ Paired (Rp (fun a => M a ∨ a = D) H2 n) acc (ds.take i)) ⟨Ex.new hD, [], upd_same, rfl, .nil⟩ (fun i H2 _ z => hG H2 z.1) ?_ ?_
  · rintro i v H2 H3 hi ⟨e2, acc, hacc, hal, hpa⟩ ⟨rfl, hv⟩
    obtain ⟨d1, g1⟩ : ∃ d1, ds[i]? = some d1 := ⟨ds[i], List.getElem?_eq_getElem (by omega)⟩
    refine ⟨hw v, yes_if ?_⟩
    refine he i v d1 H3 (fun a => M a ∨ a = D) hv g1 e2 (fun a z => .inl z) (fun a z => ?_) (fun a z => z.imp id fun q => by rw [q]; exact hD) _ fun v' H4 e4 r4 => ?_
    · rcases z with z | z
      · intro q
        have := hM a z
        cases h1 : H1 a with
        | none => exact this h1
        | some o =>
          rw [e2 _ _ h1] at q
          cases q
      · rw [z, hacc]
        exact fun q => nomatch q
    · refine ⟨acc, e4 _ _ hacc, small1000 (by omega), (e2.trans e4).mut hD, acc ++ [v'], upd_same, by rw [List.length_append, List.length_singleton, hal], ?_⟩
      have es : ds.take (i + 1) = ds.take i ++ [d1] := by rw [List.take_add_one, g1] <;> rfl
      rw [es]
      have eu : ExM (fun a => M a ∨ a = D) H4 (upd H4 D (.lst (acc ++ [v']))) := ExM.upd (.inr rfl)
      exact pairs_app (Paired.mapP hpa fun _ _ z => (z.ex e4).exM (fun _ q => q) eu) (.cons (r4.exM (fun _ q => q) eu) .nil)
  · rintro H2 ⟨e2, acc, hacc, hal, hpa⟩
    have et : ds.take xs.length = ds := by rw [← hds, List.take_length]
    rw [et] at hpa
    exact k D H2 acc hD e2 hacc hal (Paired.mapP hpa fun _ _ z => z.weak fun _ q => .inl q) hMD
section
variable {K : PySem.W.Frag} {tl te : TE} {j : Nat} {vs : List Nat} {σ : L2.St} {H : Hp} {M : Addr → Prop} {n : Nat} {ds : List PyData} {xs : List V} {a : Addr}
theorem lcT (hl : Ev tl σ H (.ref a)) (hx : H a = some (.tup xs)) (hM : ∀ a, M a → H a ≠ none) (hlen : xs.length ≤ 1000) (hds : ds.length = xs.length) (hw : ∀ x, wipe ((wipe σ vs).set j (some x)) vs = wipe σ vs)
    (he : ∀ (i : Nat) (x : V) (d : PyData) (H' : Hp) (M' : Addr → Prop), xs[i]? = some x → ds[i]? = some d → Ex H H' → (∀ a, M a → M' a) → (∀ a, M' a → H' a ≠ none) → (∀ a, M' a → M a ∨ H a = none) →
      ∀ Q : VK, (∀ v H2, Ex H' H2 → Rp M' H2 n v d → Q v H2) → te ((wipe σ vs).set j (some x)) H' Q)
    {Q : VK} (k : ∀ D H' acc, H D = none → Ex H H' → H' D = some (.lst acc) → acc.length = xs.length → Paired (Rp M H' n) acc ds → ¬ M D → Q (.ref D) H') : tLc (iTup K tl) (gName j) tYes te vs σ H Q :=
  hl H (Ex.refl H) _ fun H1 e1 => ⟨a, rfl, ⟨xs, st_of (e1 _ _ hx)⟩, lc_map (walk_tup (K := K) (a := a) (xs := xs)) rfl (M := M) (n := n) (ds := ds) (fun H' e => st_of (e _ _ (e1 _ _ hx))) (fun a z q => by
      cases h1 : H a with
      | none => exact hM a z h1
      | some o =>
        rw [e1 _ _ h1] at q
        cases q) hlen hds hw
    (fun i x d H' M' h1 h2 e2 h3 h4 h5 => he i x d H' M' h1 h2 (e1.trans e2) h3 h4 fun a z => (h5 a z).imp id fun q => fresh_back e1 q)
    fun D H' acc hD e2 h1 h2 h3 h4 => k D H' acc (fresh_back e1 hD) (e1.trans e2) h1 h2 h3 h4⟩
theorem lcL (hl : Ev tl σ H (.ref a)) (hx : H a = some (.lst xs)) (hM : ∀ a, M a → H a ≠ none) (hlen : xs.length ≤ 1000) (hds : ds.length = xs.length) (hw : ∀ x, wipe ((wipe σ vs).set j (some x)) vs = wipe σ vs)
    (he : ∀ (i : Nat) (x : V) (d : PyData) (H' : Hp) (M' : Addr → Prop), xs[i]? = some x → ds[i]? = some d → Ex H H' → (∀ a, M a → M' a) → (∀ a, M' a → H' a ≠ none) → (∀ a, M' a → M a ∨ H a = none) →
      ∀ Q : VK, (∀ v H2, Ex H' H2 → Rp M' H2 n v d → Q v H2) → te ((wipe σ vs).set j (some x)) H' Q)
    {Q : VK} (k : ∀ D H' acc, H D = none → Ex H H' → H' D = some (.lst acc) → acc.length = xs.length → Paired (Rp M H' n) acc ds → ¬ M D → Q (.ref D) H') : tLc (iList K tl) (gName j) tYes te vs σ H Q :=
  hl H (Ex.refl H) _ fun H1 e1 => ⟨a, rfl, ⟨xs, sq_of (e1 _ _ hx)⟩, lc_map (walk_list (K := K) (a := a) (xs := xs)) rfl (M := M) (n := n) (ds := ds) (fun H' e => sq_of (e _ _ (e1 _ _ hx))) (fun a z q => by
      cases h1 : H a with
      | none => exact hM a z h1
      | some o =>
        rw [e1 _ _ h1] at q
        cases q) hlen hds hw
    (fun i x d H' M' h1 h2 e2 h3 h4 h5 => he i x d H' M' h1 h2 (e1.trans e2) h3 h4 fun a z => (h5 a z).imp id fun q => fresh_back e1 q)
    fun D H' acc hD e2 h1 h2 h3 h4 => k D H' acc (fresh_back e1 hD) (e1.trans e2) h1 h2 h3 h4⟩
theorem cb1 {r : List V → Hp → VK → Prop} {Q : VK} (h : te σ H fun x H1 => r [x] H1 Q) : tCB r (tCons te tNil) σ H Q := h
theorem ret_ {D : Ends} (h : te σ H D.rt) : tRet te D σ H := h
theorem asg_ {D : Ends} {i : Nat} (h : te σ H fun x H1 => D.nx (σ.set i (some x)) H1) : tAsg te (gName i) D σ H := h
theorem seq_asg {D : Ends} {tz : TS} {i : Nat} (h : te σ H fun x H1 => tz D (σ.set i (some x)) H1) : tSeq (tAsg te (gName i)) tz D σ H := h
theorem drop_ {D : Ends} (h : te σ H fun _ H1 => D.nx σ H1) : tDrop te D σ H := h
theorem seq_drop {D : Ends} {tz : TS} (h : te σ H fun _ H1 => tz D σ H1) : tSeq (tDrop te) tz D σ H := h
end
theorem Rp.skip {M : Addr → Prop} {H : Hp} {p : Addr} {o : HO} (hp : H p = some o) (hl : ∀ xs, o ≠ .lst xs) (ht : ∀ xs, o ≠ .tup xs) : ∀ {n : Nat} {v : V} {d : PyData}, Rp M H n v d → Rp (fun b => M b ∨ b = p) H n v d := by
  intro n
  induction n with
  | zero =>
    intro v d h
    cases v <;> cases d <;> first
      | exact h
      | (exfalso; exact h)
  | succ n ih =>
    intro v d h
    cases v <;> cases d <;> first
      | exact h
      | (exfalso; exact h)
      | (obtain ⟨xs, h1, h2, h3, h4⟩ := h
         exact ⟨xs, h1, h2, Paired.mapP h3 fun a b z => ih z, fun z => z.elim h4 fun q => by
           rw [q, hp] at h1
           first | exact hl _ (Option.some.inj h1) | exact ht _ (Option.some.inj h1)⟩)
theorem exo_lst {e C : Addr} {d : Option Addr} {xs : List V} : exo e C d ≠ .lst xs := fun z => by
  have z' : HO.ext _ = HO.lst xs := z
  cases z'
theorem exd_lst {e : Addr} {fs : List (Str × V)} {xs : List V} : exd e fs ≠ .lst xs := fun z => by
  have z' : HO.ext _ = HO.lst xs := z
  cases z'
theorem held_rp {H1 : Hp} {a dx C : Addr} {o : HO} {n : Nat} {y : V} {d : PyData} (ha : H1 a = some (exo a C none)) (hdx : H1 dx = none) (r : Rp M0 H1 n y d) : Rp M0 (upd (upd H1 dx o) a (exo a C (some dx))) n y d := by
  refine (r.skip ha (fun _ => exo_lst) (fun _ => exo_tup)).exM (fun _ z => z.elim) fun b u nb hb => ?_
  have n1 : b ≠ a := fun z => nb (.inr z)
  rw [upd_ne n1, upd_ne (ne_of_none hb hdx)]
  exact hb
theorem lookup1 (f : Str) (y : V) (fs : List (Str × V)) : ((f, y) :: fs).lookup f = some y := by
  rw [L2.lookup_put, if_pos rfl]
theorem held1 {C a dx : Addr} {f : Str} {y : V} {d : PyData} {H H1 : Hp} (s : Ex H H1) (ha : H1 a = some (exo a C none)) (hdx : H1 dx = none) (hne : dx ≠ a) (r : Rp M0 H1 1 y d) :
    SmB a H (upd (upd H1 dx (exd dx [(f, y)])) a (exo a C (some dx))) ∧ Held C [f] [d] (.ref a) (upd (upd H1 dx (exd dx [(f, y)])) a (exo a C (some dx))) := by
  refine ⟨fun b o nb hb => ?_, a, some dx, [(f, y)], rfl, upd_same, fun dd hd => by cases hd; rw [upd_ne hne, upd_same], fun i nm dd hn hd => ⟨⟨dx, rfl⟩, ?_⟩⟩
  · rw [upd_ne nb, upd_ne (ne_of_none (s _ _ hb) hdx)]
    exact s _ _ hb
  · cases i with
    | zero =>
      cases hn
      cases hd
      exact ⟨y, lookup1 _ _ _, held_rp ha hdx r⟩
    | succ i => simp at hn
theorem held0 {C a : Addr} {H : Hp} (ha : H a = some (exo a C none)) : SmB a H H ∧ Held C [] [] (.ref a) H :=
  ⟨SmB.refl a H, a, Option.none, [], rfl, ha, fun dd hd => (nomatch hd), fun i nm dd hn hd => (by simp at hn)⟩
theorem held2 {C a dx : Addr} {f g : Str} {y z : V} {d e : PyData} {H H1 : Hp} (s : Ex H H1) (ha : H1 a = some (exo a C none)) (hdx : H1 dx = none) (hne : dx ≠ a) (hfg : ¬ f = g) (r : Rp M0 H1 1 y d) (r2 : Rp M0 H1 1 z e) :
    SmB a H (upd (upd (upd H1 dx (exd dx [(f, y)])) a (exo a C (some dx))) dx (exd dx [(g, z), (f, y)])) ∧ Held C [f, g] [d, e] (.ref a) (upd (upd (upd H1 dx (exd dx [(f, y)])) a (exo a C (some dx))) dx (exd dx [(g, z), (f, y)])) := by
  have tr : ∀ {n : Nat} {v : V} {d : PyData}, Rp M0 H1 n v d → Rp M0 (upd (upd (upd H1 dx (exd dx [(f, y)])) a (exo a C (some dx))) dx (exd dx [(g, z), (f, y)])) n v d := fun h => by
    refine ((held_rp (o := exd dx [(f, y)]) ha hdx h).skip (p := dx) (o := exd dx [(f, y)]) (by rw [upd_ne hne, upd_same]) (fun _ => exd_lst) (fun _ => exd_tup)).exM (fun _ z => z.elim) fun b u nb hb => ?_
    rw [upd_ne fun z => nb (.inr z)]
    exact hb
  refine ⟨fun b o nb hb => ?_, a, some dx, [(g, z), (f, y)], rfl, by rw [upd_ne hne.symm, upd_same], fun dd hd => by cases hd; exact upd_same, fun i nm dd hn hd => ⟨⟨dx, rfl⟩, ?_⟩⟩
  · have n1 := ne_of_none (s _ _ hb) hdx
    rw [upd_ne n1, upd_ne nb, upd_ne n1]
    exact s _ _ hb
  · cases i with
    | zero =>
      cases hn
      cases hd
      exact ⟨y, by rw [L2.lookup_put, if_neg hfg]; exact lookup1 _ _ _, tr r⟩
    | succ i =>
      cases i with
      | zero =>
        cases hn
        cases hd
        exact ⟨z, lookup1 _ _ _, tr r2⟩
      | succ i => simp at hn
/-- what okK tells of a value -/
theorem ok1 {M : Addr → Prop} {H : Hp} {n : Nat} {v : V} {d : PyData} (k : okK 1 d) (r : Rp M H n v d) : ∃ z, v = .str z ∧ z.length ≤ 100 := by
  cases d with
  | str z =>
    cases n <;> cases v <;> first
      | exact ⟨_, rfl, by
          have e : _ = z := r
          rw [e]
          exact k⟩
      | (exfalso; exact r)
  | _ => exact (show False from k).elim
theorem ok2 {M : Addr → Prop} {H : Hp} {n : Nat} {v : V} {d : PyData} (k : okK 2 d) (r : Rp M H n v d) : ∃ z, v = .int z ∧ z.natAbs.log2 < 1920 := by
  cases d with
  | int z =>
    cases n <;> cases v <;> first
      | exact ⟨_, rfl, by
          have e : _ = z := r
          rw [e]
          exact k⟩
      | (exfalso; exact r)
  | _ => exact (show False from k).elim
theorem ok3 {H : Hp} {n : Nat} {v : V} {d : PyData} (k : okK 3 d) (r : Rp M0 H n v d) : ∃ (a : Addr) (l : List Int), v = .ref a ∧ H a = some (.tup (l.map V.int)) ∧ (∀ y ∈ l, y.natAbs.log2 < 1920) ∧ l.length ≤ 100 := by
  cases d with
  | tuple ds =>
    obtain ⟨hl, l, rfl, hy⟩ := (show ds.length ≤ 100 ∧ ∃ l : List Int, ds = l.map .int ∧ ∀ y ∈ l, y.natAbs.log2 < 1920 from k)
    cases n <;> cases v <;> first
      | (exfalso; exact r)
      | (obtain ⟨xs, h1, _, h3, _⟩ := r
         rw [ints_of h3] at h1
         rw [List.length_map] at hl
         exact ⟨_, l, rfl, h1, hy, hl⟩)
  | _ => exact (show False from k).elim
theorem ExAt.ex {H H' : Hp} {a C : Addr} (e : Ex H H') (h : ExAt H a C) : ExAt H' a C := by
  rcases h with ⟨d, h, hd⟩ | h
  · refine .own d (e _ _ h) fun dd hdd => ?_
    obtain ⟨fs, z⟩ := hd dd hdd
    exact ⟨fs, e _ _ z⟩
  · exact .bare (e _ _ h)
theorem Held.at_ {C : Addr} {names : List Str} {ds : List PyData} {v : V} {H : Hp} (h : Held C names ds v H) : ∃ a, v = .ref a ∧ ExAt H a C := by
  obtain ⟨a, d, fs, rfl, h1, h2, _⟩ := h
  exact ⟨a, rfl, .own d h1 fun dd hd => ⟨fs, h2 dd hd⟩⟩
section
variable {K : PySem.W.Frag} {σ : L2.St} {H : Hp} {te : TE} {C D S : Addr}
theorem evp_isx {a : Addr} {cv : Value} {c : V} {b : Bool} (hv : Ev te σ H (.ref a)) (h : ExAt H a C) (x : L2.ExcC K C) (k : ClsV c cv) (hk : PySem.W.kitOne K (.ref C) cv = some b) :
    Ev (tCB (rIsX K) (tCons te (tCons (tC c) tNil))) σ H (.bl b) := fun H1 e Q q =>
  hv H1 e _ fun H2 e2 => ⟨a, C, c, cv, b, rfl, h.ex (e.trans e2), x, k, hk, q H2 e2⟩
theorem evp_xat {v : V} {names : List Str} {ds : List PyData} {i : Nat} {f : Str} {d : PyData} (hv : Ev te σ H v) (h : Held C names ds v H) (x : XC K C S) (nf : PySem.W.findIn K (.ref C) f = some none) (hn : names[i]? = some f) (hd : ds[i]? = some d) :
    EvP (tXat K f te) σ H (Da 1 d) := fun H1 e Q q =>
  hv H1 e _ fun H2 e2 => by
    have h' := Held.mono C names ds _ _ _ (e.trans e2) h
    obtain ⟨a, dd, fs, rfl, h1, h2, h3⟩ := h'
    obtain ⟨⟨d0, rfl⟩, u, hu, r⟩ := h3 i f d hn hd
    exact ⟨a, C, d0, fs, u, rfl, h1, h2 d0 rfl, hu, x.xf, nf, q u H2 e2 r⟩
end
/-- the base class SwapError -/
structure SC (K : PySem.W.Frag) (S : Addr) : Prop where
  cls : PySem.W.isClsIn K S = true
  ty : PySem.W.typeIn K (.ref S) = some (.type "type")
theorem XC.kitS {K : PySem.W.Frag} {C S : Addr} (x : XC K C S) (s : SC K S) : PySem.W.kitOne K (.ref C) (.ref S) = some true := by
  unfold PySem.W.kitOne PySem.W.kitCls
  by_cases h : C = S
  · subst h
    simp
  · have e1 : ((PySem.W.clsIn K S).isSome && PySem.W.typeIn K (.ref S) == some (.type "type")) = true := by
      have z : (PySem.W.clsIn K S).isSome = true := s.cls
      rw [z, s.ty] <;> rfl
    rw [if_neg (by simpa using h)]
    show (if _ then _ else _) = _
    rw [if_pos e1]
    show PySem.W.mroIn K C _ = _
    rw [x.mro]
    simp
def rowsA (Cs : List Addr) (nds : List (List Str × List PyData)) : List VP := List.zipWith (fun C nd => Held C nd.1 nd.2) Cs nds
theorem rowsA_at {Cs : List Addr} {nds : List (List Str × List PyData)} {k : Nat} {A : VP} (h : (rowsA Cs nds)[k]? = some A) : ∃ (C : Addr) (nd : List Str × List PyData), Cs[k]? = some C ∧ A = Held C nd.1 nd.2 := by
  unfold rowsA at h
  rw [List.getElem?_zipWith] at h
  cases h1 : Cs[k]? with
  | none =>
    rw [h1] at h
    cases h
  | some C =>
    cases h2 : nds[k]? with
    | none =>
      rw [h1, h2] at h
      cases h
    | some nd =>
      rw [h1, h2] at h
      exact ⟨C, nd, rfl, (Option.some.inj h).symm⟩
theorem rowsA_mono (Cs : List Addr) (nds : List (List Str × List PyData)) : Monos (rowsA Cs nds) := fun A hA => by
  obtain ⟨k, hk⟩ := List.mem_iff_getElem?.mp hA
  obtain ⟨C, nd, _, rfl⟩ := rowsA_at hk
  exact Held.mono _ _ _
def flagsD (Cs : List Addr) (S C : Addr) : List PyData := Cs.map fun c => .bool (decide (c = C) || decide (c = S))
theorem flags_at {Cs : List Addr} {S C : Addr} {k : Nat} (hn : Cs.Nodup) (hS : S ∉ Cs) (h : Cs[k]? = some C) : flagsD Cs S C = (List.range Cs.length).map fun i => .bool (decide (i = k)) := by
  unfold flagsD
  obtain ⟨hk, hC⟩ := List.getElem?_eq_some_iff.mp h
  apply List.ext_getElem
  · simp
  · intro i h1 h2
    have hi : i < Cs.length := by simpa using h1
    simp only [List.getElem_map, List.getElem_range]
    have e1 : ¬ Cs[i] = S := fun z => hS (z ▸ List.getElem_mem hi)
    have e2 : (Cs[i] = C) ↔ i = k := by
      rw [← hC]
      exact List.getElem_inj hn
    by_cases hik : i = k
    · subst hik
      simp [hC]
    · have : ¬ Cs[i] = C := fun z => hik (e2.mp z)
      simp [e1, this, hik]
theorem ints_rp {M : Addr → Prop} {H : Hp} {n : Nat} : ∀ l : List Int, Paired (Rp M H n) (l.map V.int) (l.map .int)
  | [] => .nil
  | _ :: l => .cons Rp.int (ints_rp l)
section
variable {σ : L2.St} {H : Hp} {te ta tb : TE}
theorem evl_da {xs : List V} {bs : List Bool} (h : EvL te σ H xs) (e : xs = bs.map V.bl) (hl : bs.length ≤ 1000) : EvP te σ H (Da 1 (.list (bs.map .bool))) := fun H1 e1 Q q =>
  h H1 e1 Q fun p H2 _ e2 hp => by
    subst e
    refine q _ _ e2 ⟨_, hp, by rw [List.length_map]; exact hl, ?_, fun z => z⟩
    clear h hp hl q
    induction bs with
    | nil => exact .nil
    | cons b bs ih => exact .cons Rp.bl ih
theorem given_bools (n : Nat) (g : Nat → Bool) : given n (fun _ => true) (fun i => V.bl (g i)) = ((List.range n).map g).map V.bl := by
  unfold given
  rw [List.filter_eq_self.mpr (fun _ _ => rfl), List.map_map]
  rfl
theorem lg1920 {m : Int} (h : m.natAbs < 2 ^ 200) : m.natAbs.log2 < 1920 := Nat.lt_trans (PySem.Flt.log2_lt_of (by decide) h) (by decide)
theorem Da.le {n m : Nat} (h : n ≤ m) {d : PyData} {v : V} {H : Hp} (r : Da n d v H) : Da m d v H := by
  induction h with
  | refl => exact r
  | step _ ih => exact Rp.up ih
end
end Cm
set_option Elab.async false
set_option linter.all false
set_option maxRecDepth 100000
set_option maxHeartbeats 4000000
namespace Cm
open PySem PySem.Spec PyProof.Rows L2 Evl

/-- a def of the text that may raise, with its promise -/
structure DfX (P : Program) (w : World) (K : PySem.W.Frag) (mg : Str → Option Value) (base : Heap) (k : Nat) (x : Str) (ps : List Str) (sp : Sp) where
  f : Addr
  fd : FuncData
  G : FnOk P w K mg base (L2.CX P w) k f fd ps sp
  m : mg x = some (.ref f)
  kp : PySem.W.keepIn K (.ref f) = true
  b : Binds K fd ps []
def Bd.dfX {P : Program} {w : World} {K : PySem.W.Frag} {mg : Str → Option Value} {base : Heap} {k : Nat} {x : Str} {st : Stmt} {ps : List Str} {sp : Sp} (B : Bd K mg x st ps) (G : FnOk P w K mg base (L2.CX P w) k B.f B.fd ps sp) : DfX P w K mg base k x ps sp :=
  ⟨B.f, B.fd, G, B.m, B.F.kp, B.b⟩
/-! ### own exceptions on their way -/
/-- the fields of an own exception's dict -/
def Flds (H : Hp) (names : List Str) (ds : List PyData) (fs : List (Str × V)) : Prop := ∀ (i : Nat) (nm : Str) (e : PyData), names[i]? = some nm → ds[i]? = some e → ∃ u, fs.lookup nm = some u ∧ Rp M0 H 1 u e
/-- what is known of an exception that is on its way -/
def Flying (names : List Str) (ds : List PyData) (d : Option Addr) (H : Hp) : Prop := ∃ dd fs, d = some dd ∧ H dd = some (.xd fs) ∧ Flds H names ds fs
theorem Flying.ex {names : List Str} {ds : List PyData} {d : Option Addr} {H H' : Hp} (e : Ex H H') (h : Flying names ds d H) : Flying names ds d H' := by
  obtain ⟨dd, fs, hd, h1, h2⟩ := h
  refine ⟨dd, fs, hd, e _ _ h1, fun i nm x hn hx => ?_⟩
  obtain ⟨u, hu, r⟩ := h2 i nm x hn hx
  exact ⟨u, hu, r.ex e⟩
def spX (C : Addr) (names : List Str) (ks : List Nat) : Sp := fun vs H Q _ => ∃ (a : Addr) (args : List V) (ds : List PyData), vs = .ref a :: args ∧ H a = some (exo a C none) ∧ Paired (Rp M0 H 1) args ds ∧ Paired okK ks ds ∧ args.length = names.length ∧
  ∀ (H' : Hp) (dx : Addr) (fs : List (Str × V)), H dx = none → SmB a H H' → H' a = some (exo a C (some dx)) → H' dx = some (exd dx fs) → Flds H' names ds fs → Q .non H'
theorem held1N {C a dx : Addr} {f : Str} {y : V} {d : PyData} {H H1 : Hp} (s : Ex H H1) (ha : H1 a = some (exo a C none)) (hdx : H1 dx = none) (hne : dx ≠ a) (r : Rp M0 H1 1 y d) :
    SmB a H (upd (upd H1 dx (exd dx [(f, y)])) a (exo a C (some dx))) ∧ (upd (upd H1 dx (exd dx [(f, y)])) a (exo a C (some dx))) a = some (exo a C (some dx)) ∧ (upd (upd H1 dx (exd dx [(f, y)])) a (exo a C (some dx))) dx = some (exd dx [(f, y)]) ∧
    Flds (upd (upd H1 dx (exd dx [(f, y)])) a (exo a C (some dx))) [f] [d] [(f, y)] := by
  refine ⟨fun b o nb hb => ?_, upd_same, by rw [upd_ne hne, upd_same], fun i nm dd hn hd => ?_⟩
  · rw [upd_ne nb, upd_ne (ne_of_none (s _ _ hb) hdx)]
    exact s _ _ hb
  · cases i with
    | zero =>
      cases hn
      cases hd
      exact ⟨y, lookup1 _ _ _, held_rp ha hdx r⟩
    | succ i => simp at hn
theorem held2N {C a dx : Addr} {f g : Str} {y z : V} {d e : PyData} {H H1 : Hp} (s : Ex H H1) (ha : H1 a = some (exo a C none)) (hdx : H1 dx = none) (hne : dx ≠ a) (hfg : ¬ f = g) (r : Rp M0 H1 1 y d) (r2 : Rp M0 H1 1 z e) :
    SmB a H (upd (upd (upd H1 dx (exd dx [(f, y)])) a (exo a C (some dx))) dx (exd dx [(g, z), (f, y)])) ∧ (upd (upd (upd H1 dx (exd dx [(f, y)])) a (exo a C (some dx))) dx (exd dx [(g, z), (f, y)])) a = some (exo a C (some dx)) ∧
    (upd (upd (upd H1 dx (exd dx [(f, y)])) a (exo a C (some dx))) dx (exd dx [(g, z), (f, y)])) dx = some (exd dx [(g, z), (f, y)]) ∧
    Flds (upd (upd (upd H1 dx (exd dx [(f, y)])) a (exo a C (some dx))) dx (exd dx [(g, z), (f, y)])) [f, g] [d, e] [(g, z), (f, y)] := by
  have tr : ∀ {n : Nat} {v : V} {d : PyData}, Rp M0 H1 n v d → Rp M0 (upd (upd (upd H1 dx (exd dx [(f, y)])) a (exo a C (some dx))) dx (exd dx [(g, z), (f, y)])) n v d := fun h => by
    refine ((held_rp (o := exd dx [(f, y)]) ha hdx h).skip (p := dx) (o := exd dx [(f, y)]) (by rw [upd_ne hne, upd_same]) (fun _ => exd_lst) (fun _ => exd_tup)).exM (fun _ z => z.elim) fun b u nb hb => ?_
    rw [upd_ne fun z => nb (.inr z)]
    exact hb
  refine ⟨fun b o nb hb => ?_, by rw [upd_ne hne.symm, upd_same], upd_same, fun i nm dd hn hd => ?_⟩
  · have n1 := ne_of_none (s _ _ hb) hdx
    rw [upd_ne n1, upd_ne nb, upd_ne n1]
    exact s _ _ hb
  · cases i with
    | zero =>
      cases hn
      cases hd
      exact ⟨y, by rw [L2.lookup_put, if_neg hfg]; exact lookup1 _ _ _, tr r⟩
    | succ i =>
      cases i with
      | zero =>
        cases hn
        cases hd
        exact ⟨z, lookup1 _ _ _, tr r2⟩
      | succ i => simp at hn
/-- raise C(..): what flies -/
theorem mk_fly {C : Addr} {names : List Str} {ks : List Nat} {σ : L2.St} {H : Hp} {ta : TA} {ds : List PyData} {Q : XK} (h : EvAP ta σ H (ds.map (Da 1))) (ok : Paired okK ks ds) (hl : ds.length = names.length) (h9 : ds.length ≤ 9)
    (q : ∀ d H', Ex H H' → Flying names ds d H' → Q (.ref C) d H') : tMkO C (spX C names ks) [] ta σ H Q :=
  h H (Ex.refl H) _ fun vs H2 e2 as => by
    have hv := pairs_len as
    rw [List.length_map] at hv
    refine ⟨by omega, fun a ha => ?_⟩
    rw [List.append_nil]
    refine ⟨a, vs, ds, rfl, upd_same, Paired.mapP (pairs_da as) fun _ _ z => z.ex (Ex.new ha), ok, by omega, fun H' dx fs hdx s h1 h2 hf => ⟨rfl, dx, fs, h1, h2, ?_, ?_⟩⟩
    · cases hh : H2 dx with
      | none => rfl
      | some o =>
        rw [Ex.new ha _ _ hh] at hdx
        cases hdx
    have hda : dx ≠ a := fun z => by
      rw [z, upd_same] at hdx
      cases hdx
    have hd2 : H2 dx = none := by
      cases hh : H2 dx with
      | none => rfl
      | some o =>
        rw [Ex.new ha _ _ hh] at hdx
        cases hdx
    refine q _ _ (e2.trans fun b o hb => ?_) ⟨dx, fs, rfl, upd_same, fun i nm x hn hx => ?_⟩
    · have nb : b ≠ a := ne_of_none hb ha
      rw [upd_ne (ne_of_none hb hd2)]
      show del H' a b = _
      rw [del_ne nb]
      refine s b o nb ?_
      rw [upd_ne nb]
      exact hb
    · obtain ⟨u, hu, r⟩ := hf i nm x hn hx
      refine ⟨u, hu, ((r.skip h1 (fun _ => exo_lst) (fun _ => exo_tup)).skip h2 (fun _ => exd_lst) (fun _ => exd_tup)).exM (fun _ z => z.elim) fun b o nb hb => ?_⟩
      rw [upd_ne fun z => nb (.inr z), del_ne fun z => nb (.inl (.inr z))]
      exact hb
section
variable {X : Cx} {K : PySem.W.Frag}
/-- isinstance(e, c), e the exception that the suite holds -/
def rIsD (K : PySem.W.Frag) (a : Addr) (cls : Value) (d : Option Addr) : List V → Hp → VK → Prop := fun xs H Q => ∃ (D : Addr) (c : V) (cv : Value) (b : Bool) (dd : Addr) (fs : List (Str × V)), xs = [.ref a, c] ∧ cls = .ref D ∧ d = some dd ∧ H dd = some (.xd fs) ∧ L2.ExcC K D ∧ ClsV c cv ∧ PySem.W.kitOne K (.ref D) cv = some b ∧ Q (.bl b) H
theorem call_isD {a : Addr} {oe : Obj} {cls : Value} {d : Option Addr} {pn : List (Addr × Obj)} (hK : X.K = K) (hz : Zc cls d oe) (hf : ∃ vs, oe.data = .fields vs) : CallR (X.suite a ((a, oe) :: pn)) (.builtin "isinstance") (rIsD K a cls d) := by
  subst hK
  intro pins s σ H xs us Q I r h
  obtain ⟨D, c, cv, b, dd, fs, rfl, rfl, rfl, hd, T, k, ek, q⟩ := h
  obtain ⟨u1, u2, rfl, r1, r2⟩ := vals2 r
  cases (show u1 = Value.ref a from r1)
  have e2 := k.eq r2
  subst e2
  have hcl : (PySem.W.clsIn X.K D).isSome = true := by
    obtain ⟨cd, hc, _⟩ := PySem.W.any_some T.hd
    rw [hc] <;> rfl
  obtain ⟨ha, _⟩ := I.pin (a, oe) (List.mem_append_left _ List.mem_cons_self)
  obtain ⟨vs, hdata⟩ := hf
  have hx : ObjOk X.prog X.w H s.heap dd (.xd fs) := I.hok dd _ hd
  obtain ⟨mA, hns, _⟩ := hx
  obtain ⟨od, ho, _⟩ := lookIn_ns hns
  have J : PySem.W.InstAt s.heap a oe D (some od) := ⟨ha, hz.1, by unfold PySem.W.notCls; rw [hdata] <;> rfl, by rw [hz.2]; exact ho⟩
  exact PySem.W.kia_one (PySem.W.kitx_exc hcl T.hg T.hk T.hs T.ha T.hn T.ht T.hm) I.kIn J ek (fun z => nomatch z) fun tk => ⟨.bl b, H, I.tok tk, rfl, q⟩
end
/-- except D takes an exception of C -/
theorem XC.exm {K : PySem.W.Frag} {C S D T : Addr} (x : XC K C S) (y : XC K D T) : PySem.W.exmOne K (.ref C) (.ref D) = some (decide (D = C) || decide (D = S)) := by
  have e1 : (PySem.W.subIn K (.ref D) (.type "BaseException") == some true) = true := by rw [y.exC] <;> rfl
  show (if (PySem.W.subIn K (.ref D) (.type "BaseException") == some true) = true then PySem.W.kitCls K (.ref C) (.ref D) else none) = _
  rw [if_pos e1]
  have h := x.kit y
  unfold PySem.W.kitOne at h
  by_cases hCD : C = D
  · subst hCD
    obtain ⟨cd, hc, _⟩ := x.cls
    have e2 : ((PySem.W.clsIn K C).isSome && PySem.W.typeIn K (.ref C) == some (.type "type")) = true := by rw [hc, x.ty] <;> rfl
    unfold PySem.W.kitCls
    show (if _ then _ else _) = _
    rw [if_pos e2]
    show PySem.W.mroIn K C _ = _
    rw [x.mro]
    simp
  · rw [if_neg (by simpa using hCD)] at h
    exact h
theorem XC.exmS {K : PySem.W.Frag} {C S : Addr} (x : XC K C S) (s : SC K S) (hS : PySem.W.subIn K (.ref S) (.type "BaseException") = some true) : PySem.W.exmOne K (.ref C) (.ref S) = some true := by
  have e1 : (PySem.W.subIn K (.ref S) (.type "BaseException") == some true) = true := by rw [hS] <;> rfl
  have e2 : ((PySem.W.clsIn K S).isSome && PySem.W.typeIn K (.ref S) == some (.type "type")) = true := by
    have z : (PySem.W.clsIn K S).isSome = true := s.cls
    rw [z, s.ty] <;> rfl
  show (if (PySem.W.subIn K (.ref S) (.type "BaseException") == some true) = true then PySem.W.kitCls K (.ref C) (.ref S) else none) = _
  rw [if_pos e1]
  unfold PySem.W.kitCls
  show (if _ then _ else _) = _
  rw [if_pos e2]
  show PySem.W.mroIn K C _ = _
  rw [x.mro]
  simp
/-! ### data of any depth in the library's words -/
theorem Rp.dp {K : PySem.W.Frag} {M : Addr → Prop} {H : Hp} : ∀ {n : Nat} {v : V} {d : PyData}, Rp M H n v d → Dp K H v d := by
  intro n
  induction n with
  | zero =>
    intro v d h
    cases v <;> cases d <;> first
      | (exfalso; exact h)
      | exact .non
      | (cases (show _ = _ from h)
         first | exact .bl _ | exact .int _ | exact .str _)
  | succ n ih =>
    have all : ∀ {xs : List V} {ds : List PyData}, Paired (Rp M H n) xs ds → DpAll K H xs ds := fun p => by
      induction p with
      | nil => exact .nil
      | cons a b ih2 => exact .cons (ih a) ih2
    intro v d h
    cases v <;> cases d <;> first
      | (exfalso; exact h)
      | exact .non
      | (cases (show _ = _ from h)
         first | exact .bl _ | exact .int _ | exact .str _)
      | (obtain ⟨xs, h1, _, h3, _⟩ := h
         exact .lst (sq_of h1) (all h3))
      | (obtain ⟨xs, h1, _, h3, _⟩ := h
         exact .tup (st_of h1) (all h3))
/-! ### data that lie off a mask -/
def DaM (M : Addr → Prop) (n : Nat) (d : PyData) : VP := fun v H => Rp M H n v d
theorem DaM.mono (M : Addr → Prop) (n : Nat) (d : PyData) : Mono (DaM M n d) := fun _ _ _ e h => Rp.ex e h
theorem Monos.daM (M : Addr → Prop) (n : Nat) (ds : List PyData) : Monos (ds.map (DaM M n)) := fun A hA => by
  obtain ⟨d, _, rfl⟩ := List.mem_map.mp hA
  exact DaM.mono M n d
theorem pairs_daM {M : Addr → Prop} {H : Hp} {n : Nat} : ∀ {ds : List PyData} {vs : List V}, Paired (fun (A : VP) v => A v H) (ds.map (DaM M n)) vs → Paired (Rp M H n) vs ds
  | [], _, h => by
    cases h
    exact .nil
  | d :: ds, _, h => by
    cases h with
    | cons h1 h2 => exact .cons h1 (pairs_daM h2)
section
variable {K : PySem.W.Frag} {σ : L2.St} {H H' : Hp} {te tf : TE} {ta : TA} {M : Addr → Prop}
theorem evp_scM {n : Nat} {v : V} {d : PyData} (r : ∀ H : Hp, Rp M H n v d) : EvP (tC v) σ H (DaM M n d) := evp_of ev_c (r H) (DaM.mono _ _ _)
theorem evp_tupM {n : Nat} {ds : List PyData} (hM : Live M H) (h : EvAP ta σ H (ds.map (DaM M n))) (hl : ds.length ≤ 1000) : EvP (tTup ta) σ H (DaM M (n + 1) (.tuple ds)) := fun H1 e Q q =>
  h H1 e _ fun vs H2 e2 as => by
    have hv : vs.length = ds.length := by
      have z := pairs_len as
      rw [List.length_map] at z
      exact z.symm
    exact ⟨sz_of (by omega), fun p hp => q _ _ (e2.trans (Ex.new hp)) ⟨vs, upd_same, by omega, Paired.mapP (pairs_daM as) fun _ _ z => z.ex (Ex.new hp), fun z => (hM.ex (e.trans e2)) p z hp⟩⟩
theorem EvLP.daM {n : Nat} {ds : List PyData} (hM : Live M H) (h : EvLP te σ H (ds.map (DaM M n))) (hl : ds.length ≤ 1000) : EvP te σ H (DaM M (n + 1) (.list ds)) := fun H1 e Q q =>
  h H1 e Q fun p vs H2 hp e2 l as => q _ _ e2 ⟨vs, l, by
    have z := pairs_len as
    rw [List.length_map] at z
    omega, pairs_daM as, fun z => (hM.ex e) p z hp⟩
end
end Cm
set_option Elab.async false
set_option linter.all false
set_option maxRecDepth 100000
set_option maxHeartbeats 4000000
namespace Cm
open PySem PySem.Spec PyProof.Rows L2 Evl
section
variable {ta' : TA} {K : PySem.W.Frag} {σ : L2.St} {H H' : Hp} {te tf tg ta tb tc : TE} {M : Addr → Prop} {x y z : V}
/-- a < b < c -/
theorem ev_chain {r1 r2 : R2} {k1 k2 : Bool} (ha : Ev ta σ H x) (hb : Ev tb σ H y) (hc : Ev tc σ H z) (h1 : RV r1 x y H (.bl k1)) (h2 : k1 = true → RV r2 y z H (.bl k2)) : Ev (tChain r1 r2 ta tb tc) σ H (.bl (k1 && k2)) := fun H1 e1 Q q =>
  ha H1 e1 _ fun H2 e2 => hb H2 (e1.trans e2) _ fun H3 e3 => h1 H3 ((e1.trans e2).trans e3) _ fun H4 e4 => ⟨k1, rfl, by
    have e14 := (e1.trans e2).trans (e3.trans e4)
    cases k1 with
    | false => exact q H4 (e2.trans (e3.trans e4))
    | true =>
      show (if true = true then _ else _)
      rw [if_pos rfl]
      exact hc H4 e14 _ fun H5 e5 => h2 rfl H5 (e14.trans e5) _ fun H6 e6 => q H6 (e2.trans (e3.trans (e4.trans (e5.trans e6))))⟩
theorem ev_lenD {n : Nat} {v : V} {ds : List PyData} (h : Ev te σ H v) (r : Rp M H n v (.tuple ds)) : Ev (tCB (fun xs H Q => ∃ p ys, xs = [V.ref p] ∧ (SqL K H p ys ∨ SqT K H p ys) ∧ Q (.int ys.length) H) (tCons te tNil)) σ H (.int (ds.length : Int)) := by
  cases n with
  | zero => cases v <;> exact (show False from r).elim
  | succ n =>
    cases v with
    | ref a =>
      obtain ⟨xs, h1, _, h3, _⟩ := r
      rw [← pair_len h3]
      exact ev_lenT h (st_of h1)
    | _ => exact (show False from r).elim
variable {As : List VP} {D : Ends} {tz : TS}
theorem s_retLPn (h : EvLP te σ H As) (k : ∀ p vs H1, H p = none → Ex H H1 → H1 p = some (.lst vs) → Paired (fun (A : VP) v => A v H1) As vs → D.rt (.ref p) H1) : tRet te D σ H := h H (Ex.refl H) _ fun p vs H1 hp e l as => k p vs H1 hp e l as
theorem q_asgLPn {i : Nat} (h : EvLP te σ H As) (k : ∀ p vs H1, H p = none → Ex H H1 → H1 p = some (.lst vs) → Paired (fun (A : VP) v => A v H1) As vs → tz D (σ.set i (some (.ref p))) H1) : tSeq (tAsg te (gName i)) tz D σ H := h H (Ex.refl H) _ fun p vs H1 hp e l as => k p vs H1 hp e l as
theorem ev_notInL {n : Nat} {v : V} {d : PyData} {ds : List PyData} (h : Ev ta σ H v) (r : Rp M H n v d) (hd : SeqAt.shaped d = true) (hl : EvLP tb σ H (ds.map (DaM M0 1))) (hs : SeqAt.shaped (.list ds) = true) (h1 : ds.length ≤ 1000) : Ev (tOp (rNotInD K) ta tb) σ H (.bl (!ds.any fun z => PyData.eqv z d)) := fun H1 e Q q =>
  h H1 e _ fun H2 e2 => hl H2 (e.trans e2) _ fun p vs H3 hp e3 l3 a3 => by
    have pa := pairs_daM a3
    have hlen := pair_len pa
    have r2 : Rp M0 H3 2 (.ref p) (.list ds) := ⟨vs, l3, by omega, pa, fun z => z⟩
    exact ⟨d, ds, Rp.dp (r.ex ((e.trans e2).trans e3)), Rp.dp r2, hd, hs, q H3 (e2.trans e3)⟩
theorem strM {n : Nat} {x : Str} : EvP (tC (.str x)) σ H (DaM M n (.str x)) := evp_scM fun _ => Rp.str
theorem intM {n : Nat} {x : Int} : EvP (tC (.int x)) σ H (DaM M n (.int x)) := evp_scM fun _ => Rp.int
theorem blM {n : Nat} {x : Bool} : EvP (tC (.bl x)) σ H (DaM M n (.bool x)) := evp_scM fun _ => Rp.bl
theorem nonM {n : Nat} : EvP (tC .non) σ H (DaM M n .none) := evp_scM fun _ => Rp.non
theorem eap_consM {tr : TA} {n : Nat} {d : PyData} {ds : List PyData} (h : EvP te σ H (DaM M n d)) (hr : EvAP tr σ H (ds.map (DaM M n))) : EvAP (tCons te tr) σ H ((d :: ds).map (DaM M n)) := eap_cons h (DaM.mono _ _ _) hr
theorem eap_nilM {n : Nat} : EvAP tNil σ H (([] : List PyData).map (DaM M n)) := eap_nil
theorem elp_lstM {n : Nat} {ds : List PyData} (h : EvAP ta' σ H (ds.map (DaM M n))) (hl : ds.length ≤ 1000) : EvLP (tLst ta') σ H (ds.map (DaM M n)) := elp_lst h (Monos.daM _ _ _) (by rw [List.length_map]; exact hl)
end
theorem exw {te : TE} {σ : L2.St} {H : Hp} {D : Ends} {i : Nat} {A : VP} (h : EvP te σ H A) (k : ∀ v H1, Ex H H1 → A v H1 → D.nx (σ.set i (some v)) H1) : tAsg te (gName i) D σ H := h H (Ex.refl H) _ k
theorem evp_tup2 {σ : L2.St} {H : Hp} {te tf : TE} {n : Nat} {d e : PyData} (h : EvP te σ H (Da n d)) (h2 : EvP tf σ H (Da n e)) : EvP (tTup (tCons te (tCons tf tNil))) σ H (Da (n + 1) (.tuple [d, e])) :=
  evp_tup (n := n) (ds := [d, e]) (eap_cons h (Da.mono _ _) (eap_cons h2 (Da.mono _ _) eap_nil)) (by show 2 ≤ 1000; decide)
theorem evp_non {σ : L2.St} {H : Hp} {n : Nat} : EvP (tC .non) σ H (Da n .none) := evp_of ev_c Rp.non (Da.mono _ _)
theorem evp_tup0 {σ : L2.St} {H : Hp} {n : Nat} : EvP (tTup tNil) σ H (Da (n + 1) (.tuple [])) := evp_tup (n := n) (ds := []) eap_nil (by show 0 ≤ 1000; decide)
theorem evp_tup1 {σ : L2.St} {H : Hp} {te : TE} {n : Nat} {d : PyData} (h : EvP te σ H (Da n d)) : EvP (tTup (tCons te tNil)) σ H (Da (n + 1) (.tuple [d])) :=
  evp_tup (n := n) (ds := [d]) (eap_cons h (Da.mono _ _) eap_nil) (by show 1 ≤ 1000; decide)
/-- a tuple's item -/
theorem ev_ixT {K : PySem.W.Frag} {σ : L2.St} {H : Hp} {te ti : TE} {M : Addr → Prop} {n i : Nat} {v : V} {ds : List PyData} {d : PyData} (h : Ev te σ H v) (r : Rp M H (n + 1) v (.tuple ds)) (hi : Ev ti σ H (.int (i : Int))) (hd : ds[i]? = some d) :
    ∃ u, Rp M H n u d ∧ Ev (tOp (rIxT K) te ti) σ H u := by
  cases v with
  | ref a =>
    obtain ⟨xs, h1, _, h3, _⟩ := r
    have hl := pair_len h3
    have hi' : i < ds.length := by
      rcases List.getElem?_eq_some_iff.mp hd with ⟨z, _⟩
      exact z
    obtain ⟨d', hd', f⟩ := pair_at h3 (List.getElem?_eq_getElem (show i < xs.length by omega))
    rw [hd] at hd'
    cases hd'
    exact ⟨_, f, ev_op h hi (rv_ixT (st_of h1) (at_of (j := i) rfl (List.getElem?_eq_getElem (show i < xs.length by omega))))⟩
  | _ => exact (show False from r).elim
theorem notT {b : Bool} (h : (!b) = true) : b = false := by
  cases b with
  | false => rfl
  | true => cases h
theorem notF {b : Bool} (h : (!b) = false) : b = true := by
  cases b with
  | true => rfl
  | false => cases h
theorem u65 {k : Nat} {A : Around} (hr : Room k A) : A.units + 65 < cLine := by
  have z := hr.un
  omega
theorem u64 {k : Nat} {A : Around} (hr : Room k A) : A.units + 64 < cLine := by
  have z := hr.un
  omega
theorem ev_isD {K : PySem.W.Frag} {σ : L2.St} {H : Hp} {i : Nat} {a D dd : Addr} {fs : List (Str × V)} {c : V} {cv : Value} {b : Bool} (hv : σ[i]? = some (some (.ref a))) (hd : H dd = some (.xd fs)) (T : L2.ExcC K D) (k : ClsV c cv) (hk : PySem.W.kitOne K (.ref D) cv = some b) :
    Ev (tCB (rIsD K a (.ref D) (some dd)) (tCons (tVar i) (tCons (tC c) tNil))) σ H (.bl b) := fun H1 e Q q =>
  ⟨_, hv, D, c, cv, b, dd, fs, rfl, rfl, rfl, e _ _ hd, T, k, hk, q H1 (Ex.refl H1)⟩
theorem pairs_daM' {M : Addr → Prop} {H : Hp} {n : Nat} {vs : List V} {ds : List PyData} (h : Paired (Rp M H n) vs ds) : Paired (fun (A : VP) v => A v H) (ds.map (DaM M n)) vs := by
  induction h with
  | nil => exact .nil
  | cons a b ih => exact .cons a ih
theorem exM_of {M : Addr → Prop} {H H' : Hp} {p : Addr} (s : SmB p H H') (hp : M p) : ExM M H H' := fun b o nb hb => s b o (fun z => nb (by rw [z]; exact hp)) hb
theorem pair_all {α β : Type} {F : α → β → Prop} {l : List α} {m : List β} {P : β → Prop} (h : Paired F l m) (hp : ∀ b ∈ m, P b) {a : α} (ha : a ∈ l) : ∃ b ∈ m, F a b := by
  obtain ⟨i, hi⟩ := List.mem_iff_getElem?.mp ha
  obtain ⟨b, hb, f⟩ := pair_at h hi
  exact ⟨b, List.mem_of_getElem? hb, f⟩
theorem pairs_set {α β : Type} {F : α → β → Prop} {a : α} {b : β} (f : F a b) : ∀ {l : List α} {m : List β} (i : Nat), Paired F l m → Paired F (l.set i a) (m.set i b)
  | [], _, _, h => by
    cases h
    exact .nil
  | _ :: _, _, 0, h => by
    cases h with
    | cons h1 h2 => exact .cons f h2
  | _ :: _, _, i + 1, h => by
    cases h with
    | cons h1 h2 => exact .cons h1 (pairs_set f i h2)
end Cm
set_option Elab.async false
set_option linter.all false
set_option maxRecDepth 100000
set_option maxHeartbeats 4000000
namespace Cm
open PySem PySem.Spec PyProof.Rows L2 Evl
/-! ### enumerate over a tuple -/
theorem meets_enum_newT (t : Addr) (items : Array Value) :
  Meets (Builtin.«enumerate.__new__» { pos := [Value.type "enumerate", Value.ref t] }) fun x R s =>
    s.heap.IsTuple t items ∧
      R (Except.ok (Flow.ret (Value.ref (s.heap.push { cls := Value.type "tuple_iterator", data := Data.fields #[Value.ref t, Value.int 0 0] }).objs.size)))
        { heap := (s.heap.push { cls := Value.type "tuple_iterator", data := Data.fields #[Value.ref t, Value.int 0 0] }).push
              { cls := Value.type "enumerate", data := Data.fields #[Value.none, Value.bool false, Value.ref s.heap.objs.size, rawInt 0, Value.none, Value.none] },
          gens := s.gens, drawn := s.drawn, toks := s.toks, os := s.os } := by
  refine Meets.of_wp fun prog w A R s h => ?_
  obtain ⟨hp, g, d, tk, os⟩ := s
  obtain ⟨hT, h⟩ := h
  have hsub := sub_enumerate
  refine wpAny_bind ?_
  refine wpAny_bind ?_
  refine wpAny_pure ?_
  refine wpAny_ite_false rfl ?_
  refine wpAny_bind ?_
  refine wpAny_of_eq hsub ?_
  refine wpAny_ite_false rfl ?_
  refine wpAny_pure ?_
  refine wpAny_ite_true rfl ?_
  refine wpAny_bind ?_
  refine wpAny_bind ?_
  refine wpAny_stack_any fun st => ?_
  refine wpAny_pure ?_
  have fin : wpAny (model prog w) A.in1 (pyIter (Value.ref t)) (fun v s' => wpAny (model prog w) A.in1 (Builtin.SmallTypes.newRecord (Value.type "enumerate") (Builtin.SmallTypes.ownedTupleFields ++ [v, rawInt 0, Value.none, Value.none])) (fun v s' => wpAny (model prog w) A.in1 (ret v) (fun fin s' => ∃ v, fin = Fin.done (Flow.ret v) ∧ R (Except.ok (Flow.ret v)) s') (fun e s' => R (Except.error e) s') s') (fun e s' => R (Except.error e) s') s') (fun e s' => R (Except.error e) s') ⟨hp, g, d, tk, os⟩ := by
    refine (begins_tuple t items).iter _ _ _ _ _ _ hT ?_
    unfold Builtin.SmallTypes.newRecord
    show wpAny (model prog w) A.in1 (newObj (Value.type "enumerate") _) _ _ _
    refine wpAny_newObj_type ?_ ?_
    · exact wpAny_pure ⟨_, rfl, h⟩
    · show 6 ≤ sizeLine + 2
      decide
  have fin2 : ∀ {F : Sem (Fin)}, F = (do
      let v ← pyIter (Value.ref t)
      let v ← Builtin.SmallTypes.newRecord (Value.type "enumerate") (Builtin.SmallTypes.ownedTupleFields ++ [v, rawInt 0, Value.none, Value.none])
      ret v) → wpAny (model prog w) A.in1 F (fun fin s' => ∃ v, fin = Fin.done (Flow.ret v) ∧ R (Except.ok (Flow.ret v)) s') (fun e s' => R (Except.error e) s') ⟨hp, g, d, tk, os⟩ := fun e => by
    rw [e]
    exact wpAny_bind (wpAny_mono fin (fun v s1 hv => wpAny_bind hv) (fun e s1 z => z))
  split
  · rename_i c tl kw snd tl1 heq
    cases (c == Value.type "enumerate") with
    | true => exact wpAny_ite_true rfl (wpAny_bind (wpAny_pure (fin2 rfl)))
    | false => exact wpAny_ite_false rfl (wpAny_bind (wpAny_pure (fin2 rfl)))
  · exact wpAny_ite_false rfl (wpAny_bind (wpAny_pure (fin2 rfl)))
theorem call_enum_tuple {prog : Program} {w : World} {A : Around} {E : Value → Shared → Prop} {s : Shared} {t : Addr} {items : Array Value} {Q : Value → Shared → Prop} (hT : s.heap.IsTuple t items)
    (h : ∀ h' : Heap, IsEnum h' (s.heap.objs.size + 1) s.heap.objs.size 0 Value.none → h'.IsTupleIter s.heap.objs.size t 0 → h'.objs.size = s.heap.objs.size + 2 → (∀ (b : Addr) (o : Obj), s.heap.get? b = some o → h'.get? b = some o) →
      Q (Value.ref (s.heap.objs.size + 1)) { heap := h', gens := s.gens, drawn := s.drawn, toks := s.toks, os := s.os }) : wpAny (model prog w) A (call (Value.type "enumerate") [Value.ref t]) Q E s := by
  refine callType_new F.called_enumerate (by decide) (F.typeCall_enumerate_1 (Value.ref t)) (F.newCall_enumerate_1 (Value.ref t)) (fun obj => F.args_object_init_2 obj (Value.ref t)) F.entry_enumerate_new (meets_enum_newT t items) ⟨hT, ?_⟩
  have hz := Heap.size_push s.heap { cls := Value.type "tuple_iterator", data := Data.fields #[Value.ref t, Value.int 0 0] }
  rw [hz]
  have he := Heap.get?_push_size (s.heap.push { cls := Value.type "tuple_iterator", data := Data.fields #[Value.ref t, Value.int 0 0] }) (o := { cls := Value.type "enumerate", data := Data.fields #[Value.none, Value.bool false, Value.ref s.heap.objs.size, rawInt 0, Value.none, Value.none] }) rfl
  rw [hz] at he
  refine ⟨⟨_, he, rfl⟩, h _ he ⟨_, Heap.get?_push_of_some _ (Heap.get?_push_size s.heap rfl), rfl, rfl⟩ (by rw [Heap.size_push, hz]) fun b o x => Heap.get?_push_of_some _ (Heap.get?_push_of_some _ x)⟩
/-- enumerate over a tuple -/
def IteT (K : PySem.W.Frag) (a : Addr) : It :=
  { go := fun i H => ∃ xs x, SqT K H a xs ∧ xs[i]? = some x,
    yld := fun i H v H' => ∃ T x, v = V.ref T ∧ H T = none ∧ H' = upd H T (.tup [V.int (i : Int), x]) ∧ ∀ xs, SqT K H a xs → xs[i]? = some x,
    stop := fun i H => ∃ xs, SqT K H a xs ∧ xs.length = i }
theorem turn_enumT {P : Program} {w : World} {K : PySem.W.Frag} {elts : List Expr} {kk : Nat} {tpos : Pos} (a e it : Addr) :
    Turn P w K (Expr.Tuple elts kk tpos) (IteT K a) [e, it] e fun i h => (∃ old, IsEnum h e it (i : Int) old) ∧ h.IsTupleIter it a i ∧ e ≠ it where
  mem := List.mem_cons_self
  obj := fun i h st b hb => by
    obtain ⟨⟨old, he⟩, ⟨o, ho, hc, hd⟩, hne⟩ := st
    simp only [List.mem_cons, List.not_mem_nil, or_false] at hb
    rcases hb with rfl | rfl
    · exact ⟨_, he, fun v q => nomatch q⟩
    · exact ⟨o, ho, fun v q => by
        rw [hd] at q
        cases q⟩
  keep := fun i h h' st k => by
    obtain ⟨⟨old, he⟩, hi, hne⟩ := st
    exact ⟨⟨old, k e List.mem_cons_self _ he⟩, hi.at fun o q => k it (by simp) o q, hne⟩
  item := fun X hP hw hK hc i pins s σ H E I hf st hg => by
    subst hP hw hK
    obtain ⟨⟨old, he⟩, hit, hne⟩ := st
    obtain ⟨xs, x, hq, hx⟩ := hg
    obtain ⟨its, rv, p, hz⟩ := I.tuple hq
    obtain ⟨u, hu, ru⟩ := Vals.get rv hx
    have hT : s.heap.IsTuple a its.toArray := p
    have hel := Heap.lt_size he
    have hil : it < s.heap.objs.size := by
      obtain ⟨o, ho, _⟩ := hit
      exact Heap.lt_size ho
    have hea : e ≠ a := fun z => by
      obtain ⟨o, ho, hcl, _⟩ := hT
      rw [← z] at ho
      have q : s.heap.get? e = _ := he
      rw [q] at ho
      cases ho
      exact absurd (Value.type.inj hcl) (by decide)
    have hai : a ≠ it := fun z => by
      obtain ⟨o, ho, hcl, _⟩ := hT
      obtain ⟨o', ho', hcl', _⟩ := hit
      rw [z] at ho
      rw [ho] at ho'
      cases ho'
      rw [hcl] at hcl'
      exact absurd (Value.type.inj hcl') (by decide)
    have hlt : i < its.toArray.size := by
      rcases List.getElem?_eq_some_iff.mp hu with ⟨z, _⟩
      simpa using z
    refine wpAny_pyNext_enum_itemD (Draws.tuple (A := X.A.in1) (I.ok.hd hc) it a hai its.toArray) he ⟨hit, hT⟩ hlt hne (by simp [hne, hea]) fun x' h' tk hPx ho hSt hTn hsz hk => ?_
    have hx' : x' = u := by
      have z : its[i]? = some x' := by simpa using hPx
      rw [hu] at z
      exact (Option.some.inj z).symm
    subst hx'
    refine ⟨Value.ref s.heap.objs.size, rfl, wpAny_letOwnedTupleGo_enum ho fun h'' he' sb => ?_⟩
    have hT2 := (sb.2 s.heap.objs.size (Nat.ne_of_gt hel)).trans hTn
    have new : ObjOk X.prog X.w (upd H s.heap.objs.size (.tup [V.int (i : Int), x])) h'' s.heap.objs.size (.tup [V.int (i : Int), x]) :=
      ⟨by show 2 ≤ sizeLine; decide, [Value.int (i : Int) tk, x'], .cons ⟨tk, rfl⟩ (.cons ru .nil), _, hT2, rfl, 0, rfl⟩
    have I1 := Inv.turnedNew (t' := tk + 1) I (ch := [e, it]) (fun b ob hb q => (sb.2 b fun z => hb (by simp [z])).trans (hk b ob (fun z => hb (by simp [z])) (fun z => hb (by simp [z])) q)) hf (Nat.le_refl _) new
    refine ⟨.ref s.heap.objs.size, _, I1, rfl, ⟨s.heap.objs.size, x, rfl, I.hok.fresh (Nat.le_refl _), rfl, fun ys hy => ?_⟩, ⟨⟨x', ?_⟩, ?_, hne⟩, fun b hb => ?_⟩
    · rw [I.tuple_inj hy hq]
      exact hx
    · have e1 : ((i + 1 : Nat) : Int) = (i : Int) + 1 := by omega
      rw [e1]
      exact he'
    · exact hSt.1.at fun o q => (sb.2 it hne.symm).trans q
    · have hb' : b < s.heap.objs.size := by
        simp only [List.mem_cons, List.not_mem_nil, or_false] at hb
        rcases hb with rfl | rfl
        · exact hel
        · exact hil
      rw [upd_ne (Nat.ne_of_lt hb')]
      exact (hf b hb).1
  done := fun X hP hw hK hc i pins s σ H E I hf st hg => by
    subst hP hw hK
    obtain ⟨⟨old, he⟩, hit, hne⟩ := st
    obtain ⟨xs, hq, hx⟩ := hg
    obtain ⟨its, rv, p, hz⟩ := I.tuple hq
    have hT : s.heap.IsTuple a its.toArray := p
    have hai : a ≠ it := fun z => by
      obtain ⟨o, ho, hcl, _⟩ := hT
      obtain ⟨o', ho', hcl', _⟩ := hit
      rw [z] at ho
      rw [ho] at ho'
      cases ho'
      rw [hcl] at hcl'
      exact absurd (Value.type.inj hcl') (by decide)
    have hl := Vals.length rv
    have hit' : s.heap.IsTupleIter it a its.toArray.size := by
      have e : its.toArray.size = i := by
        rw [← hx, hl]
        simp
      rw [e]
      exact hit
    obtain ⟨f0, f1, f2, f3, f4, f5⟩ := hf it (by simp)
    exact wpAny_pyNext_enum_endD (Draws.tuple (A := X.A.in1) (I.ok.hd hc) it a hai its.toArray) he ⟨hit', hT⟩ fun h' eb => ⟨rfl, Inv.turned I (fun b o hb q => eb b o hb q) f0 f1 f3 f4 f5⟩
  self := fun A i s Q E st h => by
    obtain ⟨⟨old, he⟩, _⟩ := st
    exact wpAny_pyIter_enum he h
def iEnumT (K : PySem.W.Frag) (ta : TA) : TI := fun σ H R => ta σ H fun vs H1 => ∃ a xs, vs = [.ref a] ∧ SqT K H1 a xs ∧ R (IteT K a) H1
theorem pi_enumT {X : Cx} {e : Expr} {ta : TA} {p pos tpos : Pos} {elts : List Expr} {kk : Nat} (hg : Gl X "enumerate") (hm : X.mg "enumerate" = none) (ha : PA X [e] ta)
    (hs : starEach [e] X.env = [(false, eval e X.env)] := by rfl) : PI X (.Tuple elts kk tpos) (.Call (.Name "enumerate" p) [e] [] pos) (iEnumT X.K ta) := by
  refine ⟨fun pins s σ H R I h => ?_⟩
  refine Call_ (ld_blt I hg hm boot_enumerate (PyProof.Rows.callWith_type1 (thn (ha.run pos pins s σ H _ I h) fun us s1 hh => ?_) hs rfl) (by decide) (by decide))
  obtain ⟨vs, H1, I1, r1, a, xs, rfl, hq, q⟩ := hh
  cases r1 with
  | @cons _ u0 _ ur ra rw' =>
    cases rw'
    obtain rfl : u0 = Value.ref a := ra
    obtain ⟨its, rv, p', hz⟩ := I1.tuple hq
    have hT : s1.heap.IsTuple a its.toArray := p'
    refine call_enum_tuple hT fun h' he hit hsz hk => wpAny_pyIter_enum he ?_
    have I2 := I1.kept (t' := s1.toks) hk
    refine ⟨s1.heap.objs.size + 1, [s1.heap.objs.size + 1, s1.heap.objs.size], _, IteT X.K a, H1, rfl, I2, turn_enumT a _ _, ⟨⟨Value.none, he⟩, hit, Nat.succ_ne_self _⟩, fun b hb => ?_, q⟩
    have hle : s1.heap.objs.size ≤ b := by
      simp only [List.mem_cons, List.not_mem_nil, or_false] at hb
      rcases hb with z | z
      · rw [z]
        exact Nat.le_succ _
      · rw [z]
        exact Nat.le_refl _
    exact Inv.fpOk I1 hle (I1.hok.fresh hle)
theorem walk_enumT {K : PySem.W.Frag} {a : Addr} {xs : List V} : Walk (IteT K a) xs.length (fun H => SqT K H a xs) (YPair (fun i => some (.int (i : Nat))) (fun i => xs[i]?)) := by
  refine ⟨fun i H hi q => ⟨xs, xs[i], q, List.getElem?_eq_getElem hi⟩, fun H q => ⟨xs, q, rfl⟩, fun i H v H' hi q y => ?_⟩
  obtain ⟨T, x, h1, h2, h3, h4⟩ := y
  exact ⟨T, _, x, h1, h2, h3, rfl, h4 xs q⟩
/-! ### in over a tuple of data -/
def rInT (K : PySem.W.Frag) (neg : Bool) : R2 := fun x y H Q => ∃ d ds, Dp K H x d ∧ Dp K H y (.tuple ds) ∧ SeqAt.shaped d = true ∧ SeqAt.shaped (.tuple ds) = true ∧ Q (.bl (if neg then !ds.any fun z => PyData.eqv z d else ds.any fun z => PyData.eqv z d)) H
theorem shaped_all {ds : List PyData} (h : SeqAt.shaped (.tuple ds) = true) : PyData.canLayAll0 ds = true := by
  have z := (Bool.and_eq_true_iff.mp h).1
  unfold PyData.canLay0 at z
  first
    | exact z
    | exact (Bool.and_eq_true_iff.mp z).2
    | exact (Bool.and_eq_true_iff.mp z).1
theorem op_inT {X : Cx} (hu : X.A.units + 65 < cLine) : OpR X (compareOp .In) (rInT X.K false) := by
  intro pins s σ H x y v u Q I rx ry h
  obtain ⟨d, ds, h1, h2, h3, h4, q⟩ := h
  obtain ⟨as, R1⟩ := Dp.reads I d x v h1 rx
  obtain ⟨bs, R2⟩ := Dp.reads I (.tuple ds) y u h2 ry
  have hd : d.depth ≤ 64 := of_decide_eq_true (Bool.and_eq_true_iff.mp h3).2
  refine SeqAt.in_tuple_reads R2 R1 (shaped_all h4) (Bool.and_eq_true_iff.mp h3).1 ?_ ⟨.bl _, H, I, rfl, q⟩
  have z := Nat.min_le_right (PyData.depthAll ds) d.depth
  omega
theorem op_notInT {X : Cx} (hu : X.A.units + 65 < cLine) : OpR X (compareOp .NotIn) (rInT X.K true) := by
  intro pins s σ H x y v u Q I rx ry h
  obtain ⟨d, ds, h1, h2, h3, h4, q⟩ := h
  obtain ⟨as, R1⟩ := Dp.reads I d x v h1 rx
  obtain ⟨bs, R2⟩ := Dp.reads I (.tuple ds) y u h2 ry
  have hd : d.depth ≤ 64 := of_decide_eq_true (Bool.and_eq_true_iff.mp h3).2
  refine SeqAt.notIn_tuple_reads R2 R1 (shaped_all h4) (Bool.and_eq_true_iff.mp h3).1 ?_ ⟨.bl _, H, I, rfl, q⟩
  have z := Nat.min_le_right (PyData.depthAll ds) d.depth
  omega
/-! ### all([.. for c in text]) -/
theorem all_str {K : PySem.W.Frag} {σ : L2.St} {H : Hp} {tv te : TE} {x : Str} {j : Nat} {vs : List Nat} (f : Nat → Bool) (hx : x.length ≤ 1000) (ht : Ev tv σ H (.str x)) (hw : ∀ y, wipe ((wipe σ vs).set j (some y)) vs = wipe σ vs)
    (he : ∀ c H1, Ex H H1 → Ev te ((wipe σ vs).set j (some (.str ⟨#[c]⟩))) H1 (.bl (f c))) : Ev (tCB (rAll K) (tCons (tLc (iStr tv) (gName j) tYes te vs) tNil)) σ H (.bl (x.cps.toList.all f)) := fun H1 e1 Q q =>
  ht H1 e1 _ fun H2 e2 => ⟨x, rfl, fun D hD => by
    refine lc_it (walk_str (z := x)) (fun i H' => Ex H2 H' ∧ H' D = some (.lst ((x.cps.toList.take i).map fun c => V.bl (f c)))) ⟨Ex.new hD, upd_same⟩ (fun _ _ _ _ => trivial) ?_ ?_
    · rintro i v H3 H4 hi ⟨e3, hD3⟩ ⟨rfl, c, hc, rfl⟩
      refine ⟨hw _, yes_if ?_⟩
      refine he c H4 (e1.trans (e2.trans e3)) H4 (Ex.refl _) _ fun H5 e5 => ?_
      have hsz : x.cps.size = x.length := rfl
      refine ⟨_, e5 _ _ hD3, ?_, (e3.trans e5).mut hD, ?_⟩
      · rw [List.length_map, List.length_take]
        have := Nat.min_le_left i x.cps.toList.length
        exact small1000 (by omega)
      · rw [upd_same, List.take_add_one, List.map_append]
        have hc' : x.cps.toList[i]? = some c := by simpa using hc
        rw [hc']
        rfl
    · rintro H3 ⟨e3, hD3⟩
      have ht : x.cps.toList.take x.cps.size = x.cps.toList := by
        rw [← Array.length_toList, List.take_length]
      rw [ht] at hD3
      refine ⟨D, x.cps.toList.map f, rfl, sq_of (by rw [hD3, List.map_map]; rfl), ?_⟩
      rw [List.all_map]
      exact q H3 (e2.trans e3)⟩
theorem az_mem (c : Nat) : decide (c ∈ AZ.cps.toList) = (decide (97 ≤ c) && decide (c ≤ 122)) := by
  have e : AZ.cps.toList = (List.range 26).map (97 + ·) := by decide +kernel
  rw [e]
  by_cases h : 97 ≤ c ∧ c ≤ 122
  · rw [decide_eq_true (by exact List.mem_map.mpr ⟨c - 97, List.mem_range.mpr (by omega), by omega⟩)]
    simp [h]
  · rw [decide_eq_false (fun z => h (by
      obtain ⟨i, hi, rfl⟩ := List.mem_map.mp z
      have := List.mem_range.mp hi
      omega))]
    by_cases h1 : 97 ≤ c
    · have h2 : ¬ c ≤ 122 := fun z => h ⟨h1, z⟩
      simp [h2]
    · simp [h1]
theorem ev_lenS {σ : L2.St} {H : Hp} {te : TE} {z : Str} (h : Ev te σ H (.str z)) (hz : z.length ≤ 1000) : Ev (tCB (fun xs H Q => ∃ z, xs = [V.str z] ∧ z.length ≤ sizeLine ∧ Q (.int z.length) H) (tCons te tNil)) σ H (.int (z.length : Int)) := fun H1 e Q q =>
  h H1 e _ fun H2 e2 => ⟨z, rfl, Nat.le_trans hz (by decide), q H2 e2⟩
theorem rv_sign {H : Hp} {c : Nat} : RV (fun x y H Q => ∃ (c : Nat) (z : Str), x = .str ⟨#[c]⟩ ∧ y = .str z ∧ Q (.bl (decide (c ∈ z.cps.toList))) H) (.str ⟨#[c]⟩) (.str AZ) H (.bl (decide (c ∈ AZ.cps.toList))) := fun H1 e Q q => ⟨c, AZ, rfl, rfl, q H1 (Ex.refl H1)⟩
theorem Rp.strv {M : Addr → Prop} {H : Hp} {n : Nat} {v : V} {z : Str} (r : Rp M H n v (.str z)) : v = .str z := by
  cases n <;> cases v <;> first
    | exact congrArg V.str r
    | (exfalso; exact r)
theorem cutS_le (z : Str) (lo hi : Option Int) : (cutS z lo hi).length ≤ z.length := by
  show (List.toArray _).size ≤ z.cps.size
  rw [List.size_toArray, List.length_take, List.length_drop, Array.length_toList]
  omega
/-- a sign at a place that is there -/
theorem at_sign {z : Str} {i : Int} (h0 : 0 ≤ i) (h1 : i < (z.length : Int)) : ∃ c, atI z.cps.toList i = some c := by
  have h : i.toNat < z.cps.toList.length := by
    rw [Array.length_toList]
    show i.toNat < z.length
    omega
  refine ⟨z.cps.toList[i.toNat], ?_⟩
  have w := atI_nat (List.getElem?_eq_getElem h)
  rw [Int.toNat_of_nonneg h0] at w
  exact w
/-- a name -/
def isN : PyData → Bool
  | .str z => decide (1 ≤ (z.length : Int)) && decide ((z.length : Int) ≤ 8) && z.cps.toList.all fun c => decide (c ∈ AZ.cps.toList)
  | _ => false
end Cm
set_option Elab.async false
set_option linter.all false
set_option maxRecDepth 100000
set_option maxHeartbeats 4000000
namespace Cm
open PySem PySem.Spec PyProof.Rows L2 Evl
/-! ### an object is made where an exception of its __init__ may be caught -/
theorem run_makeS {X : Cx} {CX : CXT} {k n : Nat} {f C : Addr} {fd : FuncData} {ps ks : List Str} {sp : Sp} {E : L2.St → XK} {g : List Value → List Value → List Value} {gV : List V → List V → List V} {pins : List (Addr × Obj)} {σ : L2.St} {H : Hp} {s : Shared} {Q : VK} {us ws : List Value} {vs zs : List V}
    (M : Mk X.K C f) (F : FnOk X.prog X.w X.K X.mg X.base CX k f fd ps sp) (hr : Room (k + 1) X.A) (hb : KBn X.K fd ps (n + 1) ks g gV) (hx : ∀ σ, PassesAt CX X σ (E σ)) (I : L2.Inv X pins σ H s) (r : Vals vs us) (rz : Vals zs ws) (l1 : vs.length = n) (l2 : zs.length = ks.length)
    (h : ∀ x dx, H x = none → H dx = none → dx ≠ x → sp (gV (V.ref x :: vs) zs) (upd (upd H dx (HO.own x)) x (HO.ins C dx [])) (fun v H2 => v = V.non ∧ Q (V.ref x) H2) (E σ)) :
    wpAny (model X.prog X.w) X.A (call (Value.ref C) us (ks.zip ws)) (EP X pins σ Q) X.xe s := by
  have hq := h (s.heap.objs.size + 1) s.heap.objs.size (HOk.fresh I.hok (Nat.le_succ s.heap.objs.size)) (HOk.fresh I.hok (Nat.le_refl s.heap.objs.size)) (Nat.ne_of_lt (Nat.lt_succ_self s.heap.objs.size))
  have I2 := Inv.made (C := C) I
  have r1 : Vals (V.ref (s.heap.objs.size + 1) :: vs) (Value.ref (s.heap.objs.size + 1) :: us) := .cons rfl r
  have r2 := hb.rel r1 rz
  have n1 : (Value.ref (s.heap.objs.size + 1) :: us).length = n + 1 := by rw [List.length_cons, ← Vals.length r, l1]
  refine wpAny_call (make_map (Inv.kIn I) M.makes M.init (beq_iff_eq.mp M.fn) (codeAny_mono (F.run _ X.stack _ _ ⟨Value.ref (s.heap.objs.size + 1) :: us, ks.zip ws⟩ (g (Value.ref (s.heap.objs.size + 1) :: us) ws) _ _ _ (Room.make hr C us (ks.zip ws)) (Env0.make (Inv.env0 I2) C us (ks.zip ws)) (hb.to _ (Value.ref (s.heap.objs.size + 1) :: us) ws (Inv.kIn I2) n1 ((Vals.length rz).symm.trans l2)) r2 hq) fun r s' hq' => ?_))
  cases r with
  | error e => exact hx σ pins _ _ e s' I2 hq'
  | ok fl =>
    cases fl with
    | ret u =>
      obtain ⟨v, H', I3, rv, ev, q3⟩ := Inv.after I2 hq'
      subst ev
      exact ⟨rv, .ref (s.heap.objs.size + 1), H', I3, rfl, q3⟩
    | next => exact False.elim hq'
    | brk => exact False.elim hq'
    | cont => exact False.elim hq'
def tMakeS (C : Addr) (n m : Nat) (sp : Sp) (gV : List V → List V → List V) (E : L2.St → XK) (t tk : TA) : TE := fun σ H Q => t σ H fun vs H1 => tk σ H1 fun zs H2 => vs.length = n ∧ zs.length = m ∧ ∀ x dx, H2 x = none → H2 dx = none → dx ≠ x → sp (gV (V.ref x :: vs) zs) (upd (upd H2 dx (HO.own x)) x (HO.ins C dx [])) (fun v H3 => v = V.non ∧ Q (V.ref x) H3) (E σ)
theorem pe_makeS {X : Cx} {CX : CXT} {k n : Nat} {f C : Addr} {fd : FuncData} {ps ks : List Str} {sp : Sp} {E : L2.St → XK} {x : Str} {p pos : Pos} {e : Expr} {es : List Expr} {kws : List Keyword} {t tk : TA} {g : List Value → List Value → List Value} {gV : List V → List V → List V}
    (M : Mk X.K C f) (F : FnOk X.prog X.w X.K X.mg X.base CX k f fd ps sp) (hr : Room (k + 1) X.A) (hg : Gl X x) (hm : X.mg x = some (Value.ref C)) (hb : KBn X.K fd ps (n + 1) ks g gV) (hx : ∀ σ, PassesAt CX X σ (E σ)) (ha : PA X (e :: es) t) (hkw : PK X kws tk)
    (hall : ((backToKw pos (keywordEach kws X.env)).all fun x => x.fst.isSome) = true := by rfl) (hks : List.filterMap (fun x => x.fst) (backToKw pos (keywordEach kws X.env)) = ks := by rfl) (hdb : (x == ("__debug__" : Str)) = false := by decide) (he : starEach (e :: es) X.env = (false, eval e X.env) :: starEach es X.env := by rfl)
    (hpl : (((backTo pos (starEach (e :: es) X.env)).any fun x => x.fst) || (backToKw pos (keywordEach kws X.env)).any fun x => x.fst.isNone) = false := by rfl) : PE X (.Call (.Name x p) (e :: es) kws pos) (tMakeS C n ks.length sp gV E t tk) := by
  refine ⟨fun pins s σ H Q I h => ?_⟩
  refine wpAny_Call_Name_kw (ld_glob I hg hm ?_ hdb)
  refine PySem.W.callWith_KW I.ok.mod.kin M.kp hall (thn (ha.run pos pins s σ H _ I h) fun us s1 hh => ?_) hpl he
  obtain ⟨vs, H1, I1, r, q⟩ := hh
  refine thn (hkw.run pos pins s1 σ H1 _ I1 q) fun ws s2 hh2 => ?_
  obtain ⟨zs, H2, I2, rz, l1, l2, q2⟩ := hh2
  refine ⟨I2.kIn, ?_⟩
  rw [hks]
  exact run_makeS M F hr hb hx I2 r rz l1 l2 q2
/-- o.f, the text told by itself (for bodies of try) -/
theorem pe_fldK {X : Cx} {K : PySem.W.Frag} {e : Expr} {ta : TE} {f : Str} {pos : Pos} (hK : X.K = K) (he : PE X e ta) (hb : attributeBase e f X.env (eval e X.env) = eval e X.env) : PE X (.Attribute e f pos) (tFld K ta f) := by
  subst hK
  exact pe_fld he hb
theorem ix_tupK {X : Cx} {K : PySem.W.Frag} (hK : X.K = K) : IxR X (rIxT K) := by
  subst hK
  exact ix_tup
theorem ix_listK {X : Cx} {K : PySem.W.Frag} (hK : X.K = K) : IxR X (rIxL K) := by
  subst hK
  exact ix_list
theorem call_isiK {X : Cx} {K : PySem.W.Frag} (hK : X.K = K) : CallR X (.builtin "isinstance") (rIsi K) := by
  subst hK
  exact call_isi
/-- all([.. for x in t]), each of them true -/
theorem all_tup {K : PySem.W.Frag} {σ : L2.St} {H : Hp} {tl te : TE} {a : Addr} {xs : List V} {j : Nat} {vs : List Nat} (hx : H a = some (.tup xs)) (hl : xs.length ≤ 1000) (ht : Ev tl σ H (.ref a)) (hw : ∀ y, wipe ((wipe σ vs).set j (some y)) vs = wipe σ vs)
    (he : ∀ (i : Nat) (x : V) (H1 : Hp), Ex H H1 → xs[i]? = some x → Ev te ((wipe σ vs).set j (some x)) H1 (.bl true)) : Ev (tCB (rAll K) (tCons (tLc (iTup K tl) (gName j) tYes te vs) tNil)) σ H (.bl true) := fun H1 e1 Q q =>
  ht H1 e1 _ fun H2 e2 => ⟨a, rfl, ⟨xs, st_of ((e1.trans e2) _ _ hx)⟩, fun D hD => by
    refine lc_it (walk_tup (K := K) (a := a) (xs := xs)) (fun i H' => Ex H2 H' ∧ H' D = some (.lst ((List.replicate i true).map V.bl))) ⟨Ex.new hD, upd_same⟩ (fun _ H' _ z => st_of (((e1.trans e2).trans z.1) _ _ hx)) ?_ ?_
    · rintro i v H3 H4 hi ⟨e3, hD3⟩ ⟨rfl, hv⟩
      refine ⟨hw _, yes_if ?_⟩
      refine he i v H4 (e1.trans (e2.trans e3)) hv H4 (Ex.refl _) _ fun H5 e5 => ?_
      refine ⟨_, e5 _ _ hD3, ?_, (e3.trans e5).mut hD, ?_⟩
      · rw [List.length_map, List.length_replicate]
        exact small1000 (by omega)
      · rw [upd_same, List.replicate_succ', List.map_append]
        rfl
    · rintro H3 ⟨e3, hD3⟩
      refine ⟨D, _, rfl, sq_of hD3, ?_⟩
      rw [all_yes]
      exact q H3 (e2.trans e3)⟩
end Cm
set_option Elab.async false
set_option linter.all false
set_option maxRecDepth 100000
set_option maxHeartbeats 4000000
/-! Values without a heap, a store of what may change, and how they lie in the heap. -/
namespace Dl
open PySem PySem.Spec PyProof.Rows L2 Evl Cm

/-! ### a dict with None and ints as keys, None and ints as values -/
def optV : Option Int → V
  | none => .non
  | some i => .int i
def optK (k : Option Int) : Option Key := k.map Sum.inl
theorem optK_inj {a b : Option Int} (h : optK a = optK b) : a = b := by
  cases a <;> cases b <;> simp_all [optK]
def nodK (kvs : List (Option Int × Option Int)) : List (Option Key × V) := kvs.map fun p => (optK p.1, optV p.2)
def nodO (a : Addr) (kvs : List (Option Int × Option Int)) : HO := .ext fun h => kvs.length ≤ sizeLine ∧ (a == sysModules) = false ∧ ∃ (P : Program) (w : World) (vs : List (Option Key × Value)), KV (nodK kvs) vs ∧ h.DictOf (noneKind P w) a vs
theorem nod_is {P : Program} {w : World} {k : Option Int} {u : Value} (r : RelV (optV k) u) : (noneKind P w).is (optK k) u = true := by
  cases k with
  | none =>
    obtain rfl : u = Value.none := r
    rfl
  | some i =>
    obtain ⟨t, rfl⟩ : ∃ t, u = Value.int i t := r
    exact keyIs_int i t
theorem nod_pairs {P P' : Program} {w w' : World} : ∀ {es : List DictEntry} {vs : List (Option Key × Value)}, Pairs (noneKind P w) es vs → Pairs (noneKind P' w') es vs
  | _, _, .nil => .nil
  | _, _, .cons h1 h2 t => .cons h1 h2 (nod_pairs t)
theorem nod_keys : ∀ {kvs : List (Option Int × Option Int)} {vs : List (Option Key × Value)}, KV (nodK kvs) vs → ∀ q ∈ vs, ∃ k, q.1 = optK k
  | [], vs, r, q, hq => by
    cases (show KV [] vs from r)
    cases hq
  | p :: kvs, vs, r, q, hq => by
    cases (show Paired _ ((optK p.1, optV p.2) :: nodK kvs) vs from r) with
    | cons h t =>
      rcases List.mem_cons.mp hq with e | e
      · rw [e]
        exact ⟨p.1, h.1.symm⟩
      · exact nod_keys t q e
theorem nod_mem {P : Program} {w : World} : ∀ {es : List DictEntry} {vs : List (Option Key × Value)}, Pairs (noneKind P w) es vs → ∀ e ∈ es, ∃ q ∈ vs, (noneKind P w).is q.1 e.key = true
  | _, _, .nil, e, he => by cases he
  | _, _, .cons h1 _ t, e, he => by
    rcases List.mem_cons.mp he with z | z
    · rw [z]
      exact ⟨_, List.mem_cons_self, h1⟩
    · obtain ⟨q, m, r⟩ := nod_mem t e z
      exact ⟨q, List.mem_cons_of_mem _ m, r⟩
theorem nod_to {P P' : Program} {w w' : World} {h : Heap} {a : Addr} {kvs : List (Option Int × Option Int)} {vs : List (Option Key × Value)} (r : KV (nodK kvs) vs) (d : h.DictOf (noneKind P w) a vs) : h.DictOf (noneKind P' w') a vs := by
  obtain ⟨o, es, ep, ho, hx, hdt, hk, hp, hn⟩ := d
  refine ⟨o, es, ep, ho, hx, hdt, fun e he => ?_, nod_pairs hp, hn⟩
  obtain ⟨k, h1, h2⟩ := hk e he
  obtain ⟨q, hq, h3⟩ := nod_mem hp e (by simpa using he)
  obtain ⟨j, hj⟩ := nod_keys r q hq
  rw [hj] at h3
  have : k = optK j := (noneKind P w).inj _ _ _ h1 h3
  subst this
  refine ⟨optK j, h1, ?_⟩
  cases j <;> exact h2
theorem nod_st {P : Program} {w : World} {H : Hp} {h : Heap} {a : Addr} {kvs : List (Option Int × Option Int)} {vs : List (Option Key × Value)} (hl : kvs.length ≤ sizeLine) (hs : (a == sysModules) = false) (r : KV (nodK kvs) vs) (d : h.DictOf (noneKind P w) a vs) : ObjOk P w H h a (nodO a kvs) := by
  refine ⟨⟨hl, hs, P, w, vs, r, d⟩, ?_, ?_⟩
  · obtain ⟨o, _, _, ho, _⟩ := d
    exact ⟨o, ho⟩
  · rintro h1 h2 ⟨q1, q2, P', w', vs', r', o, es, ep, ho, q⟩ k
    exact ⟨q1, q2, P', w', vs', r', o, es, ep, k o ho, q⟩
theorem nod_at {X : Cx} {pins : List (Addr × Obj)} {σ : L2.St} {H : Hp} {s : Shared} {a : Addr} {kvs : List (Option Int × Option Int)} (I : L2.Inv X pins σ H s) (e : H a = some (nodO a kvs)) :
    kvs.length ≤ sizeLine ∧ (a == sysModules) = false ∧ ∃ vs, KV (nodK kvs) vs ∧ s.heap.DictOf (noneKind X.prog X.w) a vs := by
  obtain ⟨⟨h1, h2, P, w, vs, r, d⟩, _, _⟩ := I.hok a _ e
  exact ⟨h1, h2, vs, r, nod_to r d⟩
def lookN : List (Option Int × Option Int) → Option Int → Option (Option Int)
  | [], _ => none
  | p :: r, k => if p.1 = k then some p.2 else lookN r k
def putN (ks : List (Option Int × Option Int)) (k v : Option Int) : List (Option Int × Option Int) := if (ks.any fun p => decide (p.1 = k)) = true then ks.map (fun p => if p.1 = k then (p.1, v) else p) else ks ++ [(k, v)]
theorem valV_nod (k : Option Int) : ∀ ks : List (Option Int × Option Int), valV (nodK ks) (optK k) = (lookN ks k).map optV
  | [] => rfl
  | p :: r => by
    show valV ((optK p.1, optV p.2) :: nodK r) (optK k) = _
    unfold lookN
    by_cases e : p.1 = k
    · rw [if_pos e, valV_pos (show ((optK p.1, optV p.2) : Option Key × V).1 = optK k by rw [e])]
      rfl
    · rw [if_neg e, valV_neg (show ¬ ((optK p.1, optV p.2) : Option Key × V).1 = optK k from fun z => e (optK_inj z))]
      exact valV_nod k r
theorem putK_nod (k v : Option Int) (ks : List (Option Int × Option Int)) : putK (nodK ks) (optK k) (optV v) = nodK (putN ks k v) := by
  have ea : ((nodK ks).any fun kv => decide (kv.1 = optK k)) = ks.any fun p => decide (p.1 = k) := by
    unfold nodK
    rw [List.any_map]
    congr 1
    funext p
    show decide (optK p.1 = optK k) = decide (p.1 = k)
    by_cases e : p.1 = k
    · rw [e]; simp
    · rw [decide_eq_false e, decide_eq_false fun z => e (optK_inj z)]
  have em : (nodK ks).map (fun kv => if kv.1 = optK k then (kv.1, optV v) else kv) = nodK (ks.map fun p => if p.1 = k then (p.1, v) else p) := by
    unfold nodK
    rw [List.map_map, List.map_map]
    congr 1
    funext p
    show (if optK p.1 = optK k then (optK p.1, optV v) else (optK p.1, optV p.2)) = (optK (if p.1 = k then (p.1, v) else p).1, optV (if p.1 = k then (p.1, v) else p).2)
    by_cases e : p.1 = k
    · rw [if_pos (by rw [e]), if_pos e]
    · rw [if_neg fun z => e (optK_inj z), if_neg e]
  unfold putK putN
  rw [ea, em]
  split
  · rfl
  · simp [nodK]
theorem putN_len (k v : Option Int) (ks : List (Option Int × Option Int)) : (putN ks k v).length ≤ ks.length + 1 := by
  unfold putN
  split <;> simp
/-- a value: what is plain, what never changes, a thing of the store -/
inductive AV where
  | non | bl (b : Bool) | int (i : Int) | str (x : Str)
  | tup (p : Bool) (xs : List AV) | lst (xs : List AV) | dic (kvs : List (AV × AV))
  | obj (c : Str) (fs : List (Str × AV)) | exc (c : Str) (fs : List (Str × AV))
  | ref (i : Nat)
  /-- any object, of which nothing is known -/
  | opq (a : Addr)
/-- a thing of the store -/
inductive AO where
  | lst (xs : List AV) | dic (kvs : List (AV × AV)) | obj (c : Str) (fs : List (Str × AV)) | nod (kvs : List (Option Int × Option Int)) | lkd (kvs : List (AV × AV))
abbrev Store := List AO
abbrev Env := List (Option AV)

/-- what an answer may be -/
inductive Res (α : Type) where
  | ok (a : α) (S : Store) | exc (e : AV) (S : Store) | bad
namespace Res
variable {α β : Type}
def bind (r : Res α) (f : α → Store → Res β) : Res β := match r with
  | .ok a S => f a S
  | .exc e S => .exc e S
  | .bad => .bad
def post (r : Res α) (g : α → Store → Prop) (x : AV → Store → Prop) : Prop := match r with
  | .ok a S => g a S
  | .exc e S => x e S
  | .bad => False
@[simp] theorem bind_ok (a : α) (S : Store) (f : α → Store → Res β) : (Res.ok a S).bind f = f a S := rfl
@[simp] theorem bind_exc (e : AV) (S : Store) (f : α → Store → Res β) : (Res.exc e S : Res α).bind f = .exc e S := rfl
@[simp] theorem bind_bad (f : α → Store → Res β) : (Res.bad : Res α).bind f = .bad := rfl
theorem post_bind {r : Res α} {f : α → Store → Res β} {g : β → Store → Prop} {x : AV → Store → Prop} : (r.bind f).post g x ↔ r.post (fun a S => (f a S).post g x) x := by
  cases r <;> exact Iff.rfl
theorem post_mono {r : Res α} {g g' : α → Store → Prop} {x x' : AV → Store → Prop} (h : r.post g x) (hg : ∀ a S, g a S → g' a S) (hx : ∀ e S, x e S → x' e S) : r.post g' x' := by
  cases r with
  | ok a S => exact hg _ _ h
  | exc e S => exact hx _ _ h
  | bad => exact h
end Res

/-! ### how values lie in the heap -/
structure Co where
  K : PySem.W.Frag
  /-- the things of the store -/
  tr : List Addr
  /-- lists that are being made by those around -/
  hid : Addr → Prop
  ex : Option (Addr × Value × Option Addr)
/-- what never changes any more -/
def Co.Out (c : Co) (a : Addr) : Prop := a ∉ c.tr ∧ ¬ c.hid a
/-- a tuple with nothing but its items -/
def Pln (K : PySem.W.Frag) (H : Hp) (a : Addr) : Prop := (∃ o u, H a = some (.frz o (.tup u)) ∧ o.cls = .type "tuple" ∧ o.dict = none) ∨ ∃ o, K.lookup a = some o ∧ o.cls = .type "tuple" ∧ o.dict = none
/-- a text that the library's comparisons read -/
structure SOk (x : Str) : Prop where
  ok : PyData.strOk x = true
  len : x.length ≤ 1048576
mutual
inductive Rel (c : Co) (H : Hp) : AV → V → Prop
  | non : Rel c H .non .non
  | bl (b : Bool) : Rel c H (.bl b) (.bl b)
  | int (i : Int) : Rel c H (.int i) (.int i)
  | opq (a : Addr) : Rel c H (.opq a) (.ref a)
  | str {x : Str} : SOk x → Rel c H (.str x) (.str x)
  | tup {a : Addr} {p : Bool} {xs : List AV} {vs : List V} : SqT c.K H a vs → (p = true → Pln c.K H a) → Rels c H xs vs → Rel c H (.tup p xs) (.ref a)
  | lst {a : Addr} {xs : List AV} {vs : List V} : H a = some (.lst vs) → c.Out a → Rels c H xs vs → Rel c H (.lst xs) (.ref a)
  | dic {a : Addr} {kvs : List (AV × AV)} {kws : List (Key × V)} : H a = some (.dK kws) → c.Out a → Relk c H kvs kws → Rel c H (.dic kvs) (.ref a)
  | obj {a dx : Addr} {n : Str} {fs : List (Str × AV)} {gs : List (Str × V)} : H a = some (.ins (He.ga c.K n) dx gs) → c.Out a → Relf c H fs gs → Rel c H (.obj n fs) (.ref a)
  | exc {a : Addr} {n : Str} {d : Option Addr} {fs : List (Str × AV)} : c.ex = some (a, .ref (He.ga c.K n), d) → Relx c H fs d → Rel c H (.exc n fs) (.ref a)
  | ref {i : Nat} {a : Addr} : c.tr[i]? = some a → Rel c H (.ref i) (.ref a)
inductive Rels (c : Co) (H : Hp) : List AV → List V → Prop
  | nil : Rels c H [] []
  | cons {x : AV} {v : V} {xs : List AV} {vs : List V} : Rel c H x v → Rels c H xs vs → Rels c H (x :: xs) (v :: vs)
inductive Relk (c : Co) (H : Hp) : List (AV × AV) → List (Key × V) → Prop
  | nil : Relk c H [] []
  | cons {k x : AV} {q : Key} {v : V} {xs : List (AV × AV)} {vs : List (Key × V)} : Rel c H k (kV q) → Rel c H x v → Relk c H xs vs → Relk c H ((k, x) :: xs) ((q, v) :: vs)
inductive Relf (c : Co) (H : Hp) : List (Str × AV) → List (Str × V) → Prop
  | nil : Relf c H [] []
  | cons {f : Str} {x : AV} {v : V} {xs : List (Str × AV)} {vs : List (Str × V)} : Rel c H x v → Relf c H xs vs → Relf c H ((f, x) :: xs) ((f, v) :: vs)
/-- the fields of an own exception -/
inductive Relx (c : Co) (H : Hp) : List (Str × AV) → Option Addr → Prop
  | nil {d : Option Addr} : Relx c H [] d
  | some {dd : Addr} {fs : List (Str × AV)} {gs : List (Str × V)} : H dd = .some (.xd gs) → c.Out dd → Relf c H fs gs → Relx c H fs (.some dd)
end
/-- what is wanted of the heaps on the way: what is not of the store stays, new things of the store are new -/
structure Nxt (c : Co) (H : Hp) (c' : Co) (H' : Hp) : Prop where
  K : c'.K = c.K
  ex : c'.ex = c.ex
  hid : (∀ a, c.hid a → c'.hid a) ∧ ∀ a, c'.hid a → c.hid a ∨ H a = none
  tr : ∃ l, c'.tr = c.tr ++ l ∧ ∀ a ∈ l, H a = none
  keep : ∀ a o, c.Out a → H a = some o → H' a = some o
  hkeep : ∀ a o, c.hid a → H a = some o → H' a = some o
  tup : ∀ a xs, H a = some (.tup xs) → H' a = some (.tup xs)
  frz : ∀ a o u, H a = some (.frz o u) → H' a = some (.frz o u)
  live : ∀ a, H a ≠ none → H' a ≠ none
/-- the same, but what is hidden may change -/
structure Nxw (c : Co) (H : Hp) (c' : Co) (H' : Hp) : Prop where
  K : c'.K = c.K
  ex : c'.ex = c.ex
  hid : (∀ a, c.hid a → c'.hid a) ∧ ∀ a, c'.hid a → c.hid a ∨ H a = none
  tr : ∃ l, c'.tr = c.tr ++ l ∧ ∀ a ∈ l, H a = none
  keep : ∀ a o, c.Out a → H a = some o → H' a = some o
  tup : ∀ a xs, H a = some (.tup xs) → H' a = some (.tup xs)
  frz : ∀ a o u, H a = some (.frz o u) → H' a = some (.frz o u)
  live : ∀ a, H a ≠ none → H' a ≠ none
theorem Nxt.w {c c' : Co} {H H' : Hp} (n : Nxt c H c' H') : Nxw c H c' H' := ⟨n.K, n.ex, n.hid, n.tr, n.keep, n.tup, n.frz, n.live⟩
section
variable {c c' c1 c2 : Co} {H H' H1 H2 : Hp}
theorem Nxt.refl (c : Co) (H : Hp) : Nxt c H c H := ⟨rfl, rfl, ⟨fun _ h => h, fun _ h => .inl h⟩, ⟨[], by simp, fun _ h => absurd h List.not_mem_nil⟩, fun _ _ _ h => h, fun _ _ _ h => h, fun _ _ h => h, fun _ _ _ h => h, fun _ h => h⟩
theorem Nxw.out (n : Nxw c H c' H') {a : Addr} (ha : c.Out a) (hn : H a ≠ none) : c'.Out a := by
  obtain ⟨l, e, h⟩ := n.tr
  refine ⟨?_, fun z => (n.hid.2 a z).elim ha.2 hn⟩
  rw [e]
  intro z
  rcases List.mem_append.mp z with z | z
  · exact ha.1 z
  · exact hn (h a z)
theorem Nxw.at (n : Nxw c H c' H') {i : Nat} {a : Addr} (h : c.tr[i]? = some a) : c'.tr[i]? = some a := by
  obtain ⟨l, e, _⟩ := n.tr
  rw [e, List.getElem?_append_left (List.getElem?_eq_some_iff.mp h).1]
  exact h
theorem Nxw.le (n : Nxw c H c' H') : c.tr.length ≤ c'.tr.length := by
  obtain ⟨l, e, _⟩ := n.tr
  rw [e, List.length_append]
  omega
theorem Nxw.sqT (n : Nxw c H c' H') {a : Addr} {vs : List V} (h : SqT c.K H a vs) : SqT c'.K H' a vs := by
  rw [n.K]
  rcases h with (h | ⟨o, h⟩) | h
  · exact .inl (.inl (n.tup _ _ h))
  · exact .inl (.inr ⟨o, n.frz _ _ _ h⟩)
  · exact .inr h
theorem Nxw.pln (n : Nxw c H c' H') {a : Addr} (h : Pln c.K H a) : Pln c'.K H' a := by
  rw [n.K]
  rcases h with ⟨o, u, h, h1, h2⟩ | h
  · exact .inl ⟨o, u, n.frz _ _ _ h, h1, h2⟩
  · exact .inr h
mutual
theorem Rel.nxw (n : Nxw c H c' H') : ∀ {x : AV} {v : V}, Rel c H x v → Rel c' H' x v
  | _, _, .non => .non
  | _, _, .bl b => .bl b
  | _, _, .int i => .int i
  | _, _, .opq a => .opq a
  | _, _, .str h => .str h
  | _, _, .tup h hp r => .tup (n.sqT h) (fun z => n.pln (hp z)) (Rels.nxw n r)
  | _, _, .lst h ha r => .lst (n.keep _ _ ha h) (n.out ha (by rw [h]; simp)) (Rels.nxw n r)
  | _, _, .dic h ha r => .dic (n.keep _ _ ha h) (n.out ha (by rw [h]; simp)) (Relk.nxw n r)
  | _, _, .obj h ha r => .obj (by rw [n.K]; exact n.keep _ _ ha h) (n.out ha (by rw [h]; simp)) (Relf.nxw n r)
  | _, _, .exc h r => .exc (by rw [n.ex, n.K]; exact h) (Relx.nxw n r)
  | _, _, .ref h => .ref (n.at h)
theorem Rels.nxw (n : Nxw c H c' H') : ∀ {xs : List AV} {vs : List V}, Rels c H xs vs → Rels c' H' xs vs
  | _, _, .nil => .nil
  | _, _, .cons r rs => .cons (Rel.nxw n r) (Rels.nxw n rs)
theorem Relk.nxw (n : Nxw c H c' H') : ∀ {xs : List (AV × AV)} {vs : List (Key × V)}, Relk c H xs vs → Relk c' H' xs vs
  | _, _, .nil => .nil
  | _, _, .cons k r rs => .cons (Rel.nxw n k) (Rel.nxw n r) (Relk.nxw n rs)
theorem Relf.nxw (n : Nxw c H c' H') : ∀ {xs : List (Str × AV)} {vs : List (Str × V)}, Relf c H xs vs → Relf c' H' xs vs
  | _, _, .nil => .nil
  | _, _, .cons r rs => .cons (Rel.nxw n r) (Relf.nxw n rs)
theorem Relx.nxw (n : Nxw c H c' H') : ∀ {fs : List (Str × AV)} {d : Option Addr}, Relx c H fs d → Relx c' H' fs d
  | _, _, .nil => .nil
  | _, _, .some h ha r => .some (n.keep _ _ ha h) (n.out ha (by rw [h]; simp)) (Relf.nxw n r)
end

theorem Nxt.out (n : Nxt c H c' H') {a : Addr} (ha : c.Out a) (hn : H a ≠ none) : c'.Out a := n.w.out ha hn
theorem Nxw.trans (n : Nxw c H c1 H1) (m : Nxw c1 H1 c2 H2) : Nxw c H c2 H2 := by
  refine ⟨m.K.trans n.K, m.ex.trans n.ex, ⟨fun a h => m.hid.1 a (n.hid.1 a h), fun a h => (m.hid.2 a h).elim (n.hid.2 a) fun z => .inr ?_⟩, ?_, fun a o ha h => ?_, fun a xs h => m.tup a xs (n.tup a xs h), fun a o u h => m.frz a o u (n.frz a o u h), fun a h => m.live a (n.live a h)⟩
  · cases q : H a with
    | none => rfl
    | some o => exact absurd z (n.live a (by rw [q]; simp))
  · obtain ⟨l, e, h⟩ := n.tr
    obtain ⟨l', e', h'⟩ := m.tr
    refine ⟨l ++ l', by rw [e', e, List.append_assoc], fun a z => ?_⟩
    rcases List.mem_append.mp z with z | z
    · exact h a z
    · cases q : H a with
      | none => rfl
      | some o => exact absurd (h' a z) (n.live a (by rw [q]; simp))
  · have q : H a ≠ none := by rw [h]; simp
    exact m.keep a o (n.out ha q) (n.keep a o ha h)
theorem Nxt.trans (n : Nxt c H c1 H1) (m : Nxt c1 H1 c2 H2) : Nxt c H c2 H2 := by
  refine ⟨m.K.trans n.K, m.ex.trans n.ex, ⟨fun a h => m.hid.1 a (n.hid.1 a h), fun a h => (m.hid.2 a h).elim (n.hid.2 a) fun z => .inr ?_⟩, ?_, fun a o ha h => ?_, fun a o ha h => m.hkeep a o (n.hid.1 a ha) (n.hkeep a o ha h), fun a xs h => m.tup a xs (n.tup a xs h), fun a o u h => m.frz a o u (n.frz a o u h), fun a h => m.live a (n.live a h)⟩
  · cases q : H a with
    | none => rfl
    | some o => exact absurd z (n.live a (by rw [q]; simp))
  · obtain ⟨l, e, h⟩ := n.tr
    obtain ⟨l', e', h'⟩ := m.tr
    refine ⟨l ++ l', by rw [e', e, List.append_assoc], fun a z => ?_⟩
    rcases List.mem_append.mp z with z | z
    · exact h a z
    · cases q : H a with
      | none => rfl
      | some o => exact absurd (h' a z) (n.live a (by rw [q]; simp))
  · have q : H a ≠ none := by rw [h]; simp
    exact m.keep a o (n.out ha q) (n.keep a o ha h)
theorem Nxt.at (n : Nxt c H c' H') {i : Nat} {a : Addr} (h : c.tr[i]? = some a) : c'.tr[i]? = some a := n.w.at h
theorem Nxt.le (n : Nxt c H c' H') : c.tr.length ≤ c'.tr.length := n.w.le
theorem Nxt.sqT (n : Nxt c H c' H') {a : Addr} {vs : List V} (h : SqT c.K H a vs) : SqT c'.K H' a vs := n.w.sqT h
theorem Nxt.pln (n : Nxt c H c' H') {a : Addr} (h : Pln c.K H a) : Pln c'.K H' a := n.w.pln h
theorem Rel.nxt (n : Nxt c H c' H') {x : AV} {v : V} (r : Rel c H x v) : Rel c' H' x v := Rel.nxw n.w r
theorem Rels.nxt (n : Nxt c H c' H') {xs : List AV} {vs : List V} (r : Rels c H xs vs) : Rels c' H' xs vs := Rels.nxw n.w r
theorem Relk.nxt (n : Nxt c H c' H') {xs : List (AV × AV)} {vs : List (Key × V)} (r : Relk c H xs vs) : Relk c' H' xs vs := Relk.nxw n.w r
theorem Relf.nxt (n : Nxt c H c' H') {xs : List (Str × AV)} {vs : List (Str × V)} (r : Relf c H xs vs) : Relf c' H' xs vs := Relf.nxw n.w r
theorem Relx.nxt (n : Nxt c H c' H') {fs : List (Str × AV)} {d : Option Addr} (r : Relx c H fs d) : Relx c' H' fs d := Relx.nxw n.w r
end
/-- a thing of the store in the heap -/
def RelO (c : Co) (H : Hp) (a : Addr) : AO → Prop
  | .lst xs => ∃ vs, H a = some (.lst vs) ∧ Rels c H xs vs
  | .dic kvs => ∃ kws, H a = some (.dK kws) ∧ Relk c H kvs kws
  | .obj n fs => ∃ dx gs, H a = some (.ins (He.ga c.K n) dx gs) ∧ Relf c H fs gs
  | .nod kvs => H a = some (nodO a kvs)
  | .lkd kvs => ∃ od kws, H a = some (.frz od (.dK kws)) ∧ Relk c H kvs kws
structure Cor (c : Co) (S : Store) (H : Hp) : Prop where
  len : S.length = c.tr.length
  nd : c.tr.Nodup
  apart : ∀ a ∈ c.tr, ¬ c.hid a
  hl : ∀ a, c.hid a → H a ≠ none
  at_ : ∀ (i : Nat) (o : AO) (a : Addr), S[i]? = some o → c.tr[i]? = some a → RelO c H a o
/-- the slots -/
def EnvR (c : Co) (H : Hp) (ρ : Env) (σ : L2.St) : Prop := ρ.length = σ.length ∧ ∀ (i : Nat) (x : AV), ρ[i]? = some (some x) → ∃ v, σ[i]? = some (some v) ∧ Rel c H x v
theorem EnvR.nxt {c c' : Co} {H H' : Hp} {ρ : Env} {σ : L2.St} (h : EnvR c H ρ σ) (n : Nxt c H c' H') : EnvR c' H' ρ σ :=
  ⟨h.1, fun i x e => let ⟨v, e2, r⟩ := h.2 i x e; ⟨v, e2, r.nxt n⟩⟩
theorem EnvR.set {c : Co} {H : Hp} {ρ : Env} {σ : L2.St} {i : Nat} {x : AV} {v : V} (h : EnvR c H ρ σ) (r : Rel c H x v) : EnvR c H (ρ.set i (some x)) (σ.set i (some v)) := by
  refine ⟨by simp [h.1], fun j y e => ?_⟩
  by_cases q : j = i
  · subst q
    by_cases hj : j < ρ.length
    · rw [List.getElem?_set_self hj] at e
      cases e
      exact ⟨v, by rw [List.getElem?_set_self (by rw [← h.1]; exact hj)], r⟩
    · rw [List.getElem?_eq_none (by simpa using hj)] at e
      cases e
  · rw [List.getElem?_set_ne (Ne.symm q)] at e
    obtain ⟨w, e2, r2⟩ := h.2 j y e
    exact ⟨w, by rw [List.getElem?_set_ne (Ne.symm q)]; exact e2, r2⟩
theorem EnvR.clear {c : Co} {H : Hp} {ρ : Env} {σ : L2.St} {i : Nat} (h : EnvR c H ρ σ) : EnvR c H (ρ.set i none) (σ.set i none) := by
  refine ⟨by simp [h.1], fun j y e => ?_⟩
  by_cases q : j = i
  · subst q
    by_cases hj : j < ρ.length
    · rw [List.getElem?_set_self hj] at e
      cases e
    · rw [List.getElem?_eq_none (by simpa using hj)] at e
      cases e
  · rw [List.getElem?_set_ne (Ne.symm q)] at e
    obtain ⟨w, e2, r2⟩ := h.2 j y e
    exact ⟨w, by rw [List.getElem?_set_ne (Ne.symm q)]; exact e2, r2⟩

/-! ### what is wanted of an end -/
/-- a value and a heap as wanted by Q -/
def Good (c : Co) (H : Hp) (Q : VK) : AV → Store → Prop := fun x S => ∀ c' H' v, Nxt c H c' H' → Cor c' S H' → Rel c' H' x v → Q v H'
/-- an exception on its way -/
def RelE (c : Co) (H : Hp) : AV → Value → Option Addr → Prop
  | .exc n fs, cls, d => cls = .ref (He.ga c.K n) ∧ Relx c H fs d
  | _, _, _ => False
def Fall (c : Co) (H : Hp) (E : XK) : AV → Store → Prop := fun e S => ∀ c' H' cls d, Nxt c H c' H' → Cor c' S H' → RelE c' H' e cls d → E cls d H'
section
variable {c c' : Co} {H H' : Hp} {Q : VK} {E : XK} {x : AV} {S : Store}
theorem Good.nxt (g : Good c H Q x S) (n : Nxt c H c' H') : Good c' H' Q x S := fun c2 H2 v m k r => g c2 H2 v (n.trans m) k r
theorem Fall.nxt (g : Fall c H E x S) (n : Nxt c H c' H') : Fall c' H' E x S := fun c2 H2 cls d m k r => g c2 H2 cls d (n.trans m) k r
end
abbrev DE := Env → Store → Res AV
abbrev DT := Env → Store → Res Bool
abbrev DA := Env → Store → Res (List AV)
/-- a reading that answers as d says -/
def SE (W : WX) (K : PySem.W.Frag) (t : TE) (d : DE) : Prop := ∀ (ρ : Env) (S : Store) (c : Co) (σ : L2.St) (H : Hp) (Q : VK), c.K = K → Cor c S H → EnvR c H ρ σ →
  (d ρ S).post (Good c H Q) (Fall c H (WE W σ)) → t σ H Q
def ST (W : WX) (K : PySem.W.Frag) (t : TT) (d : DT) : Prop := ∀ (ρ : Env) (S : Store) (c : Co) (σ : L2.St) (H : Hp) (Q : Bool → Hp → Prop), c.K = K → Cor c S H → EnvR c H ρ σ →
  (d ρ S).post (fun b S' => ∀ c' H', Nxt c H c' H' → Cor c' S' H' → Q b H') (Fall c H (WE W σ)) → t σ H Q
def SA (W : WX) (K : PySem.W.Frag) (t : TA) (d : DA) : Prop := ∀ (ρ : Env) (S : Store) (c : Co) (σ : L2.St) (H : Hp) (Q : List V → Hp → Prop), c.K = K → Cor c S H → EnvR c H ρ σ →
  (d ρ S).post (fun xs S' => ∀ c' H' vs, Nxt c H c' H' → Cor c' S' H' → Rels c' H' xs vs → Q vs H') (Fall c H (WE W σ)) → t σ H Q
/-- an operation on values: what f says, the store as it is -/
def SO2 (K : PySem.W.Frag) (r : R2) (f : AV → AV → Store → Option AV) : Prop := ∀ (x y z : AV) (S : Store) (c : Co) (u v : V) (H : Hp) (Q : VK), c.K = K → Cor c S H → Rel c H x u → Rel c H y v →
  f x y S = some z → Good c H Q z S → r u v H Q
def SO1 (K : PySem.W.Frag) (r : V → Hp → VK → Prop) (f : AV → Store → Option AV) : Prop := ∀ (x z : AV) (S : Store) (c : Co) (u : V) (H : Hp) (Q : VK), c.K = K → Cor c S H → Rel c H x u →
  f x S = some z → Good c H Q z S → r u H Q
def SCn (K : PySem.W.Frag) (r : List V → Hp → VK → Prop) (f : List AV → Store → Option AV) : Prop := ∀ (xs : List AV) (z : AV) (S : Store) (c : Co) (us : List V) (H : Hp) (Q : VK), c.K = K → Cor c S H → Rels c H xs us →
  f xs S = some z → Good c H Q z S → r us H Q
def ofO {α : Type} (o : Option α) (S : Store) : Res α := match o with
  | some a => .ok a S
  | none => .bad
@[simp] theorem ofO_some {α : Type} (a : α) (S : Store) : ofO (some a) S = .ok a S := rfl
@[simp] theorem ofO_none {α : Type} (S : Store) : ofO (none : Option α) S = .bad := rfl
theorem ofO_post {α : Type} {o : Option α} {S : Store} {g : α → Store → Prop} {x : AV → Store → Prop} (h : (ofO o S).post g x) : ∃ a, o = some a ∧ g a S := by
  cases o with
  | none => exact False.elim h
  | some a => exact ⟨a, rfl, h⟩
end Dl
set_option Elab.async false
set_option linter.all false
set_option maxRecDepth 100000
set_option maxHeartbeats 4000000
namespace Dl
open PySem PySem.Spec PyProof.Rows L2 Evl Cm

/-! ### what is known of related values -/
section
variable {c c' : Co} {S : Store} {H H' : Hp} {x y : AV} {v u : V} {xs ys : List AV} {vs us : List V} {W : WX} {K : PySem.W.Frag} {Q : VK} {i : Nat} {a : Addr} {o : AO}
theorem Rels.len : ∀ {xs : List AV} {vs : List V}, Rels c H xs vs → xs.length = vs.length
  | _, _, .nil => rfl
  | _, _, .cons _ r => congrArg (· + 1) (Rels.len r)
theorem Rels.at : ∀ {xs : List AV} {vs : List V} {i : Nat} {x : AV}, Rels c H xs vs → xs[i]? = some x → ∃ v, vs[i]? = some v ∧ Rel c H x v
  | _, _, 0, _, .cons r _, e => by
    cases e
    exact ⟨_, rfl, r⟩
  | _, _, i + 1, x, .cons _ t, e => by
    obtain ⟨v, h1, h2⟩ := Rels.at (i := i) (x := x) t (by simpa using e)
    exact ⟨v, by simpa using h1, h2⟩
theorem Rels.at' : ∀ {xs : List AV} {vs : List V} {i : Nat} {v : V}, Rels c H xs vs → vs[i]? = some v → ∃ x, xs[i]? = some x ∧ Rel c H x v
  | _, _, 0, _, .cons r _, e => by
    cases e
    exact ⟨_, rfl, r⟩
  | _, _, i + 1, x, .cons _ t, e => by
    obtain ⟨v, h1, h2⟩ := Rels.at' (i := i) (v := x) t (by simpa using e)
    exact ⟨v, by simpa using h1, h2⟩
theorem Rels.app : ∀ {xs ys : List AV} {vs us : List V}, Rels c H xs vs → Rels c H ys us → Rels c H (xs ++ ys) (vs ++ us)
  | _, _, _, _, .nil, s => s
  | _, _, _, _, .cons r t, s => .cons r (Rels.app t s)
theorem Rels.drop : ∀ {xs : List AV} {vs : List V} (n : Nat), Rels c H xs vs → Rels c H (xs.drop n) (vs.drop n)
  | _, _, 0, h => h
  | _, _, _ + 1, .nil => .nil
  | _, _, n + 1, .cons _ t => Rels.drop n t
theorem Rels.take : ∀ {xs : List AV} {vs : List V} (n : Nat), Rels c H xs vs → Rels c H (xs.take n) (vs.take n)
  | _, _, 0, _ => .nil
  | _, _, _ + 1, .nil => .nil
  | _, _, n + 1, .cons r t => .cons r (Rels.take n t)
theorem Rels.one (r : Rel c H x v) : Rels c H [x] [v] := .cons r .nil
theorem Rels.atI {i : Int} (r : Rels c H xs vs) (e : atI xs i = some x) : ∃ v, L2.atI vs i = some v ∧ Rel c H x v := by
  unfold L2.atI at e ⊢
  rw [← r.len]
  obtain ⟨j, h1, h2⟩ := Option.bind_eq_some_iff.mp e
  obtain ⟨v, h3, h4⟩ := r.at h2
  exact ⟨v, by rw [h1]; exact h3, h4⟩
theorem Rels.nil_iff (r : Rels c H xs vs) : xs = [] ↔ vs = [] := by
  cases r <;> simp
theorem Relf.look {f : Str} : ∀ {fs : List (Str × AV)} {gs : List (Str × V)} {x : AV}, Relf c H fs gs → fs.lookup f = some x → ∃ v, gs.lookup f = some v ∧ Rel c H x v
  | _, _, _, .nil, e => nomatch e
  | _, _, x, .cons (f := g) r t, e => by
    rw [List.lookup_cons] at e ⊢
    cases q : (f == g) with
    | true =>
      rw [q] at e
      cases e
      exact ⟨_, rfl, r⟩
    | false =>
      rw [q] at e
      obtain ⟨v, h1, h2⟩ := Relf.look t e
      exact ⟨v, h1, h2⟩
theorem Relf.len : ∀ {fs : List (Str × AV)} {gs : List (Str × V)}, Relf c H fs gs → fs.length = gs.length
  | _, _, .nil => rfl
  | _, _, .cons _ r => congrArg (· + 1) (Relf.len r)

/-- a thing of the store -/
theorem Cor.obj (k : Cor c S H) (r : Rel c H (.ref i) v) (e : S[i]? = some o) : ∃ a, v = .ref a ∧ c.tr[i]? = some a ∧ RelO c H a o := by
  cases r with
  | ref h => exact ⟨_, rfl, h, k.at_ _ _ _ e h⟩
/-- the store's list, dict, object at i -/
def stL (S : Store) (i : Nat) : Option (List AV) := match S[i]? with
  | some (.lst xs) => some xs
  | _ => none
def stD (S : Store) (i : Nat) : Option (List (AV × AV)) := match S[i]? with
  | some (.dic xs) => some xs
  | _ => none
def stO (S : Store) (i : Nat) : Option (Str × List (Str × AV)) := match S[i]? with
  | some (.obj n xs) => some (n, xs)
  | _ => none
theorem stL_eq {xs : List AV} : stL S i = some xs ↔ S[i]? = some (.lst xs) := by
  unfold stL
  cases S[i]? with
  | none => simp
  | some o => cases o <;> simp
theorem stD_eq {xs : List (AV × AV)} : stD S i = some xs ↔ S[i]? = some (.dic xs) := by
  unfold stD
  cases S[i]? with
  | none => simp
  | some o => cases o <;> simp
theorem stO_eq {n : Str} {xs : List (Str × AV)} : stO S i = some (n, xs) ↔ S[i]? = some (.obj n xs) := by
  unfold stO
  cases S[i]? with
  | none => simp
  | some o => cases o <;> simp
def stN (S : Store) (i : Nat) : Option (List (Option Int × Option Int)) := match S[i]? with
  | some (.nod xs) => some xs
  | _ => none
theorem stN_eq {xs : List (Option Int × Option Int)} : stN S i = some xs ↔ S[i]? = some (.nod xs) := by
  unfold stN
  cases S[i]? with
  | none => simp
  | some o => cases o <;> simp
/-! ### values alike -/
mutual
def AV.same : AV → AV → Bool
  | .non, .non => true
  | .bl a, .bl b => a == b
  | .int a, .int b => a == b
  | .str a, .str b => a == b
  | .tup p xs, .tup q ys => p == q && sames xs ys
  | .lst xs, .lst ys => sames xs ys
  | .dic xs, .dic ys => samek xs ys
  | .obj m xs, .obj n ys => m == n && samef xs ys
  | .exc m xs, .exc n ys => m == n && samef xs ys
  | .ref i, .ref j => i == j
  | .opq i, .opq j => i == j
  | _, _ => false
def sames : List AV → List AV → Bool
  | [], [] => true
  | x :: xs, y :: ys => x.same y && sames xs ys
  | _, _ => false
def samek : List (AV × AV) → List (AV × AV) → Bool
  | [], [] => true
  | (k, x) :: xs, (l, y) :: ys => k.same l && (x.same y && samek xs ys)
  | _, _ => false
def samef : List (Str × AV) → List (Str × AV) → Bool
  | [], [] => true
  | (k, x) :: xs, (l, y) :: ys => k == l && (x.same y && samef xs ys)
  | _, _ => false
end
mutual
theorem AV.same_eq : ∀ {x y : AV}, x.same y = true → x = y
  | .non, y, h => by cases y <;> simp_all [AV.same]
  | .bl a, y, h => by cases y <;> simp_all [AV.same]
  | .int a, y, h => by cases y <;> simp_all [AV.same]
  | .str a, y, h => by cases y <;> simp_all [AV.same]
  | .ref a, y, h => by cases y <;> simp_all [AV.same]
  | .opq a, y, h => by cases y <;> simp_all [AV.same]
  | .tup p xs, y, h => by
    cases y <;> simp [AV.same] at h
    rw [h.1, sames_eq h.2]
  | .lst xs, y, h => by
    cases y <;> simp [AV.same] at h
    rw [sames_eq h]
  | .dic xs, y, h => by
    cases y <;> simp [AV.same] at h
    rw [samek_eq h]
  | .obj p xs, y, h => by
    cases y <;> simp [AV.same] at h
    rw [h.1, samef_eq h.2]
  | .exc p xs, y, h => by
    cases y <;> simp [AV.same] at h
    rw [h.1, samef_eq h.2]
theorem sames_eq : ∀ {x y : List AV}, sames x y = true → x = y
  | [], [], _ => rfl
  | [], _ :: _, h => by simp [sames] at h
  | _ :: _, [], h => by simp [sames] at h
  | a :: x, b :: y, h => by
    simp [sames] at h
    rw [AV.same_eq h.1, sames_eq h.2]
theorem samek_eq : ∀ {x y : List (AV × AV)}, samek x y = true → x = y
  | [], [], _ => rfl
  | [], _ :: _, h => by simp [samek] at h
  | _ :: _, [], h => by simp [samek] at h
  | (k, a) :: x, (l, b) :: y, h => by
    simp [samek] at h
    rw [AV.same_eq h.1, AV.same_eq h.2.1, samek_eq h.2.2]
theorem samef_eq : ∀ {x y : List (Str × AV)}, samef x y = true → x = y
  | [], [], _ => rfl
  | [], _ :: _, h => by simp [samef] at h
  | _ :: _, [], h => by simp [samef] at h
  | (k, a) :: x, (l, b) :: y, h => by
    simp [samef] at h
    rw [h.1, AV.same_eq h.2.1, samef_eq h.2.2]
end
mutual
theorem AV.same_refl : ∀ x : AV, x.same x = true
  | .non | .bl _ | .int _ | .str _ | .ref _ | .opq _ => by simp [AV.same]
  | .tup p xs => by simp [AV.same, sames_refl xs]
  | .lst xs => by simp [AV.same, sames_refl xs]
  | .dic xs => by simp [AV.same, samek_refl xs]
  | .obj _ xs => by simp [AV.same, samef_refl xs]
  | .exc _ xs => by simp [AV.same, samef_refl xs]
theorem sames_refl : ∀ x : List AV, sames x x = true
  | [] => by simp [sames]
  | a :: x => by simp [sames, AV.same_refl a, sames_refl x]
theorem samek_refl : ∀ x : List (AV × AV), samek x x = true
  | [] => by simp [samek]
  | (k, a) :: x => by simp [samek, AV.same_refl k, AV.same_refl a, samek_refl x]
theorem samef_refl : ∀ x : List (Str × AV), samef x x = true
  | [] => by simp [samef]
  | (k, a) :: x => by simp [samef, AV.same_refl a, samef_refl x]
end
def eqL (S : Store) (i : Nat) (xs : List AV) : Bool := match stL S i with
  | some ys => sames ys xs
  | none => false
theorem eqL_iff {xs : List AV} : eqL S i xs = true ↔ stL S i = some xs := by
  unfold eqL
  cases stL S i with
  | none => simp
  | some ys => exact ⟨fun h => congrArg some (sames_eq h), fun h => by cases h; exact sames_refl _⟩
/-- a list as it stands -/
def seqL (S : Store) : AV → Option (List AV)
  | .lst xs => some xs
  | .ref i => stL S i
  | _ => none
def seqA (S : Store) : AV → Option (List AV)
  | .tup _ xs => some xs
  | x => seqL S x
theorem seqL_at (k : Cor c S H) (r : Rel c H x v) (e : seqL S x = some xs) : ∃ a vs, v = .ref a ∧ H a = some (.lst vs) ∧ Rels c H xs vs := by
  cases x with
  | lst ys =>
    cases e
    cases r with
    | lst h _ rs => exact ⟨_, _, rfl, h, rs⟩
  | ref i =>
    have e : stL S i = some xs := e
    obtain ⟨a, rfl, _, vs, h, rs⟩ := k.obj r (stL_eq.mp e)
    exact ⟨a, vs, rfl, h, rs⟩
  | _ => cases e
theorem seqA_at {K : PySem.W.Frag} (hK : c.K = K) (k : Cor c S H) (r : Rel c H x v) (e : seqA S x = some xs) : ∃ a vs, v = .ref a ∧ (SqL K H a vs ∨ SqT K H a vs) ∧ Rels c H xs vs := by
  subst hK
  cases x with
  | tup p ys =>
    cases e
    cases r with
    | tup h _ rs => exact ⟨_, _, rfl, .inr h, rs⟩
  | _ =>
    obtain ⟨a, vs, h1, h2, h3⟩ := seqL_at k r e
    exact ⟨a, vs, h1, .inl (sq_of h2), h3⟩
/-- the fields of an object -/
def fsOf (S : Store) : AV → Option (Str × List (Str × AV))
  | .obj n fs => some (n, fs)
  | .ref i => stO S i
  | _ => none
theorem fsOf_at {n : Str} {fs : List (Str × AV)} (k : Cor c S H) (r : Rel c H x v) (e : fsOf S x = some (n, fs)) : ∃ a dx gs, v = .ref a ∧ H a = some (.ins (He.ga c.K n) dx gs) ∧ Relf c H fs gs := by
  cases x with
  | obj m gs =>
    cases e
    cases r with
    | obj h _ rs => exact ⟨_, _, _, rfl, h, rs⟩
  | ref i =>
    have e : stO S i = some (n, fs) := e
    obtain ⟨a, rfl, _, dx, gs, h, rs⟩ := k.obj r (stO_eq.mp e)
    exact ⟨a, dx, gs, rfl, h, rs⟩
  | _ => cases e
/-- something new that is not of the store -/
theorem Nxt.new {p : Addr} {o : HO} (hp : H p = none) : Nxt c H c (upd H p o) := by
  have up : ∀ a u, H a = some u → upd H p o a = some u := fun a u h => by
    rw [upd_ne (ne_of_none h hp)]
    exact h
  refine ⟨rfl, rfl, ⟨fun _ h => h, fun _ h => .inl h⟩, ⟨[], by simp, fun _ h => absurd h List.not_mem_nil⟩, fun a u _ h => up a u h, fun a u _ h => up a u h, fun a xs h => up a _ h, fun a u w h => up a _ h, fun a h => ?_⟩
  by_cases z : a = p
  · rw [z, upd_same]
    simp
  · rw [upd_ne z]
    exact h
theorem Cor.notin (k : Cor c S H) {p : Addr} (hp : H p = none) : p ∉ c.tr := fun z => by
  obtain ⟨i, hi, e⟩ := List.getElem_of_mem z
  have h2 : c.tr[i]? = some p := by rw [List.getElem?_eq_getElem hi, e]
  have hs : i < S.length := by
    rw [k.len]
    exact hi
  have h1 : S[i]? = some S[i] := List.getElem?_eq_getElem hs
  have h3 := k.at_ i _ p h1 h2
  cases q : S[i] with
  | lst xs =>
    rw [q] at h3
    obtain ⟨vs, h, _⟩ := h3
    rw [hp] at h
    cases h
  | dic xs =>
    rw [q] at h3
    obtain ⟨vs, h, _⟩ := h3
    rw [hp] at h
    cases h
  | obj n xs =>
    rw [q] at h3
    obtain ⟨dx, vs, h, _⟩ := h3
    rw [hp] at h
    cases h
  | nod xs =>
    rw [q] at h3
    have h : H p = some (nodO p xs) := h3
    rw [hp] at h
    cases h
  | lkd xs =>
    rw [q] at h3
    obtain ⟨od, vs, h, _⟩ := h3
    rw [hp] at h
    cases h
theorem RelO.nxt (n : Nxt c H c' H') (h : H' a = H a) (r : RelO c H a o) : RelO c' H' a o := by
  cases o with
  | lst xs =>
    obtain ⟨vs, h1, h2⟩ := r
    exact ⟨vs, by rw [h]; exact h1, h2.nxt n⟩
  | dic xs =>
    obtain ⟨vs, h1, h2⟩ := r
    exact ⟨vs, by rw [h]; exact h1, h2.nxt n⟩
  | obj m xs =>
    obtain ⟨dx, vs, h1, h2⟩ := r
    exact ⟨dx, vs, by rw [h, n.K]; exact h1, h2.nxt n⟩
  | nod xs => exact h.trans r
  | lkd xs =>
    obtain ⟨od, vs, h1, h2⟩ := r
    exact ⟨od, vs, by rw [h]; exact h1, h2.nxt n⟩
theorem RelO.isThere (r : RelO c H a o) : H a ≠ none := by
  cases o with
  | lst xs =>
    obtain ⟨vs, h1, h2⟩ := r
    rw [h1]
    simp
  | dic xs =>
    obtain ⟨vs, h1, h2⟩ := r
    rw [h1]
    simp
  | obj m xs =>
    obtain ⟨dx, vs, h1, h2⟩ := r
    rw [h1]
    simp
  | nod xs =>
    rw [show H a = some (nodO a xs) from r]
    simp
  | lkd xs =>
    obtain ⟨od, vs, h1, h2⟩ := r
    rw [h1]
    simp
theorem Cor.new {p : Addr} {o : HO} (k : Cor c S H) (hp : H p = none) : Cor c S (upd H p o) :=
  ⟨k.len, k.nd, k.apart, fun a ha => by
    by_cases z : a = p
    · rw [z, upd_same]
      simp
    · rw [upd_ne z]
      exact k.hl a ha, fun i q a e1 e2 => (k.at_ i q a e1 e2).nxt (Nxt.new hp) (upd_ne fun z => (k.at_ i q a e1 e2).isThere (by rw [z]; exact hp))⟩
theorem Cor.out (k : Cor c S H) {p : Addr} (hp : H p = none) : c.Out p := ⟨k.notin hp, fun z => k.hl p z hp⟩
/-- a new list that never changes -/
theorem new_lst {p : Addr} (k : Cor c S H) (hp : H p = none) (r : Rels c H xs vs) : Rel c (upd H p (.lst vs)) (.lst xs) (.ref p) :=
  .lst upd_same (k.out hp) (r.nxt (Nxt.new hp))
theorem new_tup {p : Addr} (hp : H p = none) (r : Rels c H xs vs) : Rel c (upd H p (.tup vs)) (.tup false xs) (.ref p) :=
  .tup (st_of upd_same) (fun z => Bool.noConfusion z) (r.nxt (Nxt.new hp))
theorem new_tupF {p : Addr} {o : Obj} (hp : H p = none) (h1 : o.cls = .type "tuple") (h2 : o.dict = none) (r : Rels c H xs vs) : Rel c (upd H p (.frz o (.tup vs))) (.tup true xs) (.ref p) :=
  .tup (.inl (.inr ⟨o, upd_same⟩)) (fun _ => .inl ⟨o, vs, upd_same, h1, h2⟩) (r.nxt (Nxt.new hp))

/-! ### plain data -/
mutual
def AV.isD : AV → Bool
  | .non | .bl _ | .int _ | .str _ => true
  | .tup _ xs | .lst xs => isDs xs
  | .dic _ | .obj _ _ | .exc _ _ | .ref _ | .opq _ => false
def isDs : List AV → Bool
  | [] => true
  | x :: xs => x.isD && isDs xs
end
mutual
def AV.py : AV → PyData
  | .non => .none
  | .bl b => .bool b
  | .int i => .int i
  | .str x => .str x
  | .tup _ xs => .tuple (pys xs)
  | .lst xs => .list (pys xs)
  | .dic _ | .obj _ _ | .exc _ _ | .ref _ | .opq _ => .none
def pys : List AV → List PyData
  | [] => []
  | x :: xs => x.py :: pys xs
end
mutual
theorem Rel.dp : ∀ {x : AV} {v : V}, Rel c H x v → x.isD = true → Dp c.K H v x.py ∧ x.py.canLay0 = true
  | _, _, .non, _ => ⟨by unfold AV.py; exact .non, by simp [AV.py, PyData.canLay0]⟩
  | _, _, .bl b, _ => ⟨by unfold AV.py; exact .bl b, by simp [AV.py, PyData.canLay0]⟩
  | _, _, .int i, _ => ⟨by unfold AV.py; exact .int i, by simp [AV.py, PyData.canLay0]⟩
  | _, _, .opq _, e => by simp [AV.isD] at e
  | _, _, .str h, _ => ⟨by unfold AV.py; exact .str _, by simp [AV.py, PyData.canLay0, h.ok]⟩
  | _, _, .tup h _ r, e => by
    obtain ⟨h1, h2⟩ := Rels.dp r (by simpa [AV.isD] using e)
    exact ⟨by unfold AV.py; exact .tup h h1, by simpa [AV.py, PyData.canLay0] using h2⟩
  | _, _, .lst h _ r, e => by
    obtain ⟨h1, h2⟩ := Rels.dp r (by simpa [AV.isD] using e)
    exact ⟨by unfold AV.py; exact .lst (sq_of h) h1, by simpa [AV.py, PyData.canLay0] using h2⟩
  | _, _, .dic _ _ _, e => by simp [AV.isD] at e
  | _, _, .obj _ _ _, e => by simp [AV.isD] at e
  | _, _, .exc _ _, e => by simp [AV.isD] at e
  | _, _, .ref _, e => by simp [AV.isD] at e
theorem Rels.dp : ∀ {xs : List AV} {vs : List V}, Rels c H xs vs → isDs xs = true → DpAll c.K H vs (pys xs) ∧ PyData.canLayAll0 (pys xs) = true
  | _, _, .nil, _ => ⟨by unfold pys; exact .nil, by simp [pys, PyData.canLayAll0]⟩
  | _, _, .cons r t, e => by
    have e' := Bool.and_eq_true_iff.mp (by simpa [isDs] using e)
    obtain ⟨h1, h2⟩ := Rel.dp r e'.1
    obtain ⟨h3, h4⟩ := Rels.dp t e'.2
    exact ⟨by unfold pys; exact .cons h1 h3, by simp [pys, PyData.canLayAll0, h2, h4]⟩
end
/-- a list or a plain value as data -/
def datOf (S : Store) : AV → Option PyData
  | .ref i => (stL S i).bind fun xs => if isDs xs then some (.list (pys xs)) else none
  | x => if x.isD then some x.py else none
theorem datOf_at {d : PyData} (k : Cor c S H) (r : Rel c H x v) (e : datOf S x = some d) : Dp c.K H v d ∧ d.canLay0 = true := by
  have plain : ∀ {x : AV}, Rel c H x v → (if x.isD = true then some x.py else none) = some d → Dp c.K H v d ∧ d.canLay0 = true := fun {x} r e => by
    split at e
    · rename_i hd
      cases e
      exact r.dp hd
    · cases e
  cases x with
  | ref i =>
    have e : ((stL S i).bind fun xs => if isDs xs then some (PyData.list (pys xs)) else none) = some d := e
    obtain ⟨xs, h1, h2⟩ := Option.bind_eq_some_iff.mp e
    split at h2
    · rename_i hd
      cases h2
      obtain ⟨a, rfl, _, vs, h, rs⟩ := k.obj r (stL_eq.mp h1)
      obtain ⟨h1, h2⟩ := rs.dp hd
      exact ⟨.lst (sq_of h) h1, by simpa [PyData.canLay0] using h2⟩
    · cases h2
  | _ => exact plain r (by exact e)
end
end Dl
set_option Elab.async false
set_option linter.all false
set_option maxRecDepth 100000
set_option maxHeartbeats 4000000
namespace Dl
open PySem PySem.Spec PyProof.Rows L2 Evl Cm
section
variable {W : WX} {K : PySem.W.Frag} {te ta tb tc : TE} {da db dc : DE} {tA : TA} {dA : DA} {tT tU : TT} {dT dU : DT}
def dVar (i : Nat) : DE := fun ρ S => match ρ[i]? with
  | some (some x) => .ok x S
  | _ => .bad
theorem se_var {i : Nat} : SE W K (tVar i) (dVar i) := by
  intro ρ S c σ H Q hK k e h
  unfold dVar at h
  cases q : ρ[i]? with
  | none =>
    rw [q] at h
    exact False.elim h
  | some o =>
    cases o with
    | none =>
      rw [q] at h
      exact False.elim h
    | some x =>
      rw [q] at h
      obtain ⟨v, h1, r⟩ := e.2 i x q
      exact ⟨v, h1, h c H v (Nxt.refl c H) k r⟩
def dC (x : AV) : DE := fun _ S => .ok x S
theorem se_c {v : V} {x : AV} (h : ∀ (c : Co) (H : Hp), c.K = K → Rel c H x v) : SE W K (tC v) (dC x) := fun _ _ c _ H _ hK k _ g => g c H v (Nxt.refl c H) k (h c H hK)
theorem se_non : SE W K (tC .non) (dC .non) := se_c fun _ _ _ => .non
theorem se_bl {b : Bool} : SE W K (tC (.bl b)) (dC (.bl b)) := se_c fun _ _ _ => .bl b
theorem se_int {i : Int} : SE W K (tC (.int i)) (dC (.int i)) := se_c fun _ _ _ => .int i
def sokB (x : Str) : Bool := PyData.strOk x && decide (x.length ≤ 1048576)
theorem SOk.of {x : Str} (h : sokB x = true) : SOk x := ⟨(Bool.and_eq_true_iff.mp h).1, of_decide_eq_true (Bool.and_eq_true_iff.mp h).2⟩
theorem se_str {x : Str} (h : sokB x = true := by decide +kernel) : SE W K (tC (.str x)) (dC (.str x)) := se_c fun _ _ _ => .str (.of h)
def dOp (f : AV → AV → Store → Option AV) (da db : DE) : DE := fun ρ S => (da ρ S).bind fun x S1 => (db ρ S1).bind fun y S2 => ofO (f x y S2) S2
theorem se_op {r : R2} {f : AV → AV → Store → Option AV} (o : SO2 K r f) (ha : SE W K ta da) (hb : SE W K tb db) : SE W K (tOp r ta tb) (dOp f da db) := by
  intro ρ S c σ H Q hK k e h
  refine ha ρ S c σ H _ hK k e (Res.post_mono (Res.post_bind.mp h) (fun x S1 h1 => ?_) fun _ _ z => z)
  intro c1 H1 u n1 k1 r1
  refine hb ρ S1 c1 σ H1 _ (n1.K.trans hK) k1 (e.nxt n1) (Res.post_mono (Res.post_bind.mp h1) (fun y S2 h2 => ?_) fun _ _ z => z.nxt n1)
  intro c2 H2 v n2 k2 r2
  obtain ⟨z, hz, g⟩ := ofO_post h2
  exact o x y z S2 c2 u v H2 Q (n2.K.trans (n1.K.trans hK)) k2 (r1.nxt n2) r2 hz (g.nxt (n1.trans n2))
def dUn (f : AV → Store → Option AV) (da : DE) : DE := fun ρ S => (da ρ S).bind fun x S1 => ofO (f x S1) S1
theorem se_un {r : V → Hp → VK → Prop} {f : AV → Store → Option AV} (o : SO1 K r f) (ha : SE W K ta da) : SE W K (tUn r ta) (dUn f da) := by
  intro ρ S c σ H Q hK k e h
  refine ha ρ S c σ H _ hK k e (Res.post_mono (Res.post_bind.mp h) (fun x S1 h1 => ?_) fun _ _ z => z)
  intro c1 H1 u n1 k1 r1
  obtain ⟨z, hz, g⟩ := ofO_post h1
  exact o x z S1 c1 u H1 Q (n1.K.trans hK) k1 r1 hz (g.nxt n1)
/-! ### argument lists -/
def dNil : DA := fun _ S => .ok [] S
def dCons (da : DE) (dr : DA) : DA := fun ρ S => (da ρ S).bind fun x S1 => (dr ρ S1).bind fun xs S2 => .ok (x :: xs) S2
theorem sa_nil : SA W K tNil dNil := fun _ _ c _ H _ _ k _ h => h c H [] (Nxt.refl c H) k .nil
theorem sa_cons {tr : TA} {dr : DA} (ha : SE W K ta da) (hr : SA W K tr dr) : SA W K (tCons ta tr) (dCons da dr) := by
  intro ρ S c σ H Q hK k e h
  refine ha ρ S c σ H _ hK k e (Res.post_mono (Res.post_bind.mp h) (fun x S1 h1 => ?_) fun _ _ z => z)
  intro c1 H1 u n1 k1 r1
  refine hr ρ S1 c1 σ H1 _ (n1.K.trans hK) k1 (e.nxt n1) (Res.post_mono (Res.post_bind.mp h1) (fun y S2 h2 => ?_) fun _ _ z => z.nxt n1)
  intro c2 H2 vs n2 k2 r2
  exact h2 c2 H2 _ (n1.trans n2) k2 (.cons (r1.nxt n2) r2)
/-- a built-in function of values -/
def dCB (f : List AV → Store → Option AV) (dA : DA) : DE := fun ρ S => (dA ρ S).bind fun xs S1 => ofO (f xs S1) S1
theorem se_cb {r : List V → Hp → VK → Prop} {f : List AV → Store → Option AV} (o : SCn K r f) (ha : SA W K tA dA) : SE W K (tCB r tA) (dCB f dA) := by
  intro ρ S c σ H Q hK k e h
  refine ha ρ S c σ H _ hK k e (Res.post_mono (Res.post_bind.mp h) (fun x S1 h1 => ?_) fun _ _ z => z)
  intro c1 H1 us n1 k1 r1
  obtain ⟨z, hz, g⟩ := ofO_post h1
  exact o x z S1 c1 us H1 Q (n1.K.trans hK) k1 r1 hz (g.nxt n1)
/-! ### displays -/
def lim : Nat := 1000000
def dTup (dA : DA) : DE := fun ρ S => (dA ρ S).bind fun xs S1 => if xs.length ≤ lim then .ok (.tup false xs) S1 else .bad
def dLst (dA : DA) : DE := fun ρ S => (dA ρ S).bind fun xs S1 => if xs.length ≤ lim then .ok (.lst xs) S1 else .bad
theorem lim_line {n : Nat} (h : n ≤ lim) : n ≤ sizeLine := by
  rw [sizeLine_eq]
  unfold lim at h
  omega
theorem se_tup (ha : SA W K tA dA) : SE W K (tTup tA) (dTup dA) := by
  intro ρ S c σ H Q hK k e h
  refine ha ρ S c σ H _ hK k e (Res.post_mono (Res.post_bind.mp h) (fun xs S1 h1 => ?_) fun _ _ z => z)
  intro c1 H1 vs n1 k1 r1
  split at h1
  · rename_i hl
    refine ⟨by rw [← r1.len]; exact lim_line hl, fun p hp => ?_⟩
    exact h1 c1 _ _ (n1.trans (Nxt.new hp)) (k1.new hp) (new_tup hp r1)
  · exact False.elim h1
/-- a display whose tuple is known whole -/
def tTupF (t : TA) : TE := fun σ H Q => t σ H fun xs H1 => xs.length ≤ sizeLine ∧ ∀ p o, H1 p = none → o.cls = .type "tuple" → o.dict = none → Q (.ref p) (upd H1 p (.frz o (.tup xs)))
theorem pe_tupF {X : Cx} {es : List Expr} {x1 : Nat} {pos : Pos} {t : TA} (h : PA X es t) : PE X (.Tuple es x1 pos) (tTupF t) :=
  ⟨fun pins s σ H Q I hq => wpAny_Tuple_spliced (thn (h.run pos pins s σ H _ I hq) fun us s1 ⟨xs, H1, J, r, z, q⟩ => ⟨by rw [← r.length]; exact z,
    ⟨.ref s1.heap.objs.size, upd H1 s1.heap.objs.size (.frz { cls := .type "tuple", data := .seq us.toArray } (.tup xs)), J.laid (t' := s1.toks) (fun b u e => Heap.get?_push_of_some _ e) (Nat.le_refl _) ⟨Heap.get?_push_size _ rfl, z, us, r, ⟨_, Heap.get?_push_size _ rfl, rfl, _, rfl⟩⟩, rfl,
      q _ _ (J.hok.fresh (Nat.le_refl _)) rfl rfl⟩⟩)⟩
def dTupF (dA : DA) : DE := fun ρ S => (dA ρ S).bind fun xs S1 => if xs.length ≤ lim then .ok (.tup true xs) S1 else .bad
theorem se_tupF (ha : SA W K tA dA) : SE W K (tTupF tA) (dTupF dA) := by
  intro ρ S c σ H Q hK k e h
  refine ha ρ S c σ H _ hK k e (Res.post_mono (Res.post_bind.mp h) (fun xs S1 h1 => ?_) fun _ _ z => z)
  intro c1 H1 vs n1 k1 r1
  split at h1
  · rename_i hl
    refine ⟨by rw [← r1.len]; exact lim_line hl, fun p o hp e1 e2 => ?_⟩
    exact h1 c1 _ _ (n1.trans (Nxt.new hp)) (k1.new hp) (new_tupF hp e1 e2 r1)
  · exact False.elim h1
theorem se_lst (ha : SA W K tA dA) : SE W K (tLst tA) (dLst dA) := by
  intro ρ S c σ H Q hK k e h
  refine ha ρ S c σ H _ hK k e (Res.post_mono (Res.post_bind.mp h) (fun xs S1 h1 => ?_) fun _ _ z => z)
  intro c1 H1 vs n1 k1 r1
  split at h1
  · rename_i hl
    refine ⟨by rw [← r1.len]; exact lim_line hl, fun p hp => ?_⟩
    exact h1 c1 _ _ (n1.trans (Nxt.new hp)) (k1.new hp) (new_lst k1 hp r1)
  · exact False.elim h1
/-! ### tests -/
def asB : AV → Option Bool
  | .bl b => some b
  | _ => none
theorem asB_at {c : Co} {H : Hp} {x : AV} {v : V} {b : Bool} (r : Rel c H x v) (e : asB x = some b) : v = .bl b := by
  cases x with
  | bl b' =>
    cases e
    cases r
    rfl
  | _ => cases e
def dTest (da : DE) : DT := fun ρ S => (da ρ S).bind fun x S1 => ofO (asB x) S1
theorem st_test (ha : SE W K ta da) : ST W K (tTest ta) (dTest da) := by
  intro ρ S c σ H Q hK k e h
  refine ha ρ S c σ H _ hK k e (Res.post_mono (Res.post_bind.mp h) (fun x S1 h1 => ?_) fun _ _ z => z)
  intro c1 H1 u n1 k1 r1
  obtain ⟨b, hb, g⟩ := ofO_post h1
  exact ⟨b, asB_at r1 hb, g c1 H1 n1 k1⟩
theorem st_B (ha : SE W K ta da) : ST W K (tB ta) (dTest da) := st_test ha
def truOf (S : Store) : AV → Option Bool
  | .non => some false
  | .bl b => some b
  | .int i => some (i != 0)
  | .str x => some ((x.length : Int) != 0)
  | .tup _ xs | .lst xs => some (!xs.isEmpty)
  | .dic xs => some (!xs.isEmpty)
  | .ref i => match stL S i with
    | some xs => some (!xs.isEmpty)
    | none => (stD S i).map fun xs => !xs.isEmpty
  | _ => none
theorem Rels.emp {c : Co} {H : Hp} {xs : List AV} {vs : List V} (r : Rels c H xs vs) : xs.isEmpty = vs.isEmpty := by
  cases r <;> rfl
theorem Relk.emp {c : Co} {H : Hp} {xs : List (AV × AV)} {vs : List (Key × V)} (r : Relk c H xs vs) : xs.isEmpty = vs.isEmpty := by
  cases r <;> rfl
theorem truOf_at {c : Co} {S : Store} {H : Hp} {x : AV} {v : V} {b : Bool} (hK : c.K = K) (k : Cor c S H) (r : Rel c H x v) (e : truOf S x = some b) : TruV K v H b := by
  subst hK
  cases x with
  | non => cases e; cases r; rfl
  | bl b' => cases e; cases r; rfl
  | int i => cases e; cases r; rfl
  | str y =>
    cases e
    cases r with
    | str h => exact ⟨by have := h.len; rw [sizeLine_eq]; omega, rfl⟩
  | tup p xs =>
    cases e
    cases r with
    | tup h _ rs => exact .inr (.inl ⟨_, h, by rw [rs.emp]⟩)
  | lst xs =>
    cases e
    cases r with
    | lst h _ rs => exact .inl ⟨_, sq_of h, by rw [rs.emp]⟩
  | dic xs =>
    cases e
    cases r with
    | dic h _ rs => exact .inr (.inr ⟨_, h, by rw [rs.emp]⟩)
  | ref i =>
    have e' : (match stL S i with
      | some xs => some (!xs.isEmpty)
      | none => (stD S i).map fun xs => !xs.isEmpty) = some b := e
    cases q : stL S i with
    | some xs =>
      rw [q] at e'
      cases e'
      obtain ⟨a, rfl, _, vs, h, rs⟩ := k.obj r (stL_eq.mp q)
      exact .inl ⟨_, sq_of h, by rw [rs.emp]⟩
    | none =>
      rw [q] at e'
      obtain ⟨xs, h1, h2⟩ := Option.map_eq_some_iff.mp e'
      obtain ⟨a, rfl, _, vs, h, rs⟩ := k.obj r (stD_eq.mp h1)
      exact .inr (.inr ⟨_, h, by rw [← h2, rs.emp]⟩)
  | _ => cases e
def dTru (da : DE) : DT := fun ρ S => (da ρ S).bind fun x S1 => ofO (truOf S1 x) S1
theorem st_truth (ha : SE W K ta da) : ST W K (fun σ H Q => ta σ H fun x H' => ∃ k, TruV K x H' k ∧ Q k H') (dTru da) := by
  intro ρ S c σ H Q hK k e h
  refine ha ρ S c σ H _ hK k e (Res.post_mono (Res.post_bind.mp h) (fun x S1 h1 => ?_) fun _ _ z => z)
  intro c1 H1 u n1 k1 r1
  obtain ⟨b, hb, g⟩ := ofO_post h1
  exact ⟨b, truOf_at (n1.K.trans hK) k1 r1 hb, g c1 H1 n1 k1⟩
def dAnd (d e : DT) : DT := fun ρ S => (d ρ S).bind fun b S1 => if b = true then e ρ S1 else .ok false S1
def dOr (d e : DT) : DT := fun ρ S => (d ρ S).bind fun b S1 => if b = true then .ok true S1 else e ρ S1
def dNot (d : DT) : DT := fun ρ S => (d ρ S).bind fun b S1 => .ok (!b) S1
theorem st_and (ha : ST W K tT dT) (hb : ST W K tU dU) : ST W K (tAnd tT tU) (dAnd dT dU) := by
  intro ρ S c σ H Q hK k e h
  refine ha ρ S c σ H _ hK k e (Res.post_mono (Res.post_bind.mp h) (fun b S1 h1 => ?_) fun _ _ z => z)
  intro c1 H1 n1 k1
  cases b with
  | true => exact hb ρ S1 c1 σ H1 _ (n1.K.trans hK) k1 (e.nxt n1) (Res.post_mono h1 (fun b S2 h2 c2 H2 n2 k2 => h2 c2 H2 (n1.trans n2) k2) fun _ _ z => z.nxt n1)
  | false => exact h1 c1 H1 n1 k1
theorem st_or (ha : ST W K tT dT) (hb : ST W K tU dU) : ST W K (tOr tT tU) (dOr dT dU) := by
  intro ρ S c σ H Q hK k e h
  refine ha ρ S c σ H _ hK k e (Res.post_mono (Res.post_bind.mp h) (fun b S1 h1 => ?_) fun _ _ z => z)
  intro c1 H1 n1 k1
  cases b with
  | false => exact hb ρ S1 c1 σ H1 _ (n1.K.trans hK) k1 (e.nxt n1) (Res.post_mono h1 (fun b S2 h2 c2 H2 n2 k2 => h2 c2 H2 (n1.trans n2) k2) fun _ _ z => z.nxt n1)
  | true => exact h1 c1 H1 n1 k1
theorem st_not (ha : ST W K tT dT) : ST W K (tNot tT) (dNot dT) := by
  intro ρ S c σ H Q hK k e h
  exact ha ρ S c σ H _ hK k e (Res.post_mono (Res.post_bind.mp h) (fun b S1 h1 c1 H1 n1 k1 => h1 c1 H1 n1 k1) fun _ _ z => z)
/-! ### and, or, not as values; a if c else b; chains -/
def dAndV (da db : DE) : DE := fun ρ S => (da ρ S).bind fun x S1 => match asB x with
  | some true => db ρ S1
  | some false => .ok (.bl false) S1
  | none => .bad
def dOrV (da db : DE) : DE := fun ρ S => (da ρ S).bind fun x S1 => match asB x with
  | some true => .ok (.bl true) S1
  | some false => db ρ S1
  | none => .bad
def dNotV (da : DE) : DE := fun ρ S => (da ρ S).bind fun x S1 => ofO ((asB x).map fun b => .bl (!b)) S1
theorem se_andV (ha : SE W K ta da) (hb : SE W K tb db) : SE W K (tAndV ta tb) (dAndV da db) := by
  intro ρ S c σ H Q hK k e h
  refine ha ρ S c σ H _ hK k e (Res.post_mono (Res.post_bind.mp h) (fun x S1 h1 => ?_) fun _ _ z => z)
  intro c1 H1 u n1 k1 r1
  cases q : asB x with
  | none =>
    rw [q] at h1
    exact False.elim h1
  | some b =>
    rw [q] at h1
    refine ⟨b, asB_at r1 q, ?_⟩
    cases b with
    | true => exact hb ρ S1 c1 σ H1 _ (n1.K.trans hK) k1 (e.nxt n1) (Res.post_mono h1 (fun _ _ g => g.nxt n1) fun _ _ z => z.nxt n1)
    | false => exact h1 c1 H1 _ n1 k1 (.bl _)
theorem se_orV (ha : SE W K ta da) (hb : SE W K tb db) : SE W K (tOrV ta tb) (dOrV da db) := by
  intro ρ S c σ H Q hK k e h
  refine ha ρ S c σ H _ hK k e (Res.post_mono (Res.post_bind.mp h) (fun x S1 h1 => ?_) fun _ _ z => z)
  intro c1 H1 u n1 k1 r1
  cases q : asB x with
  | none =>
    rw [q] at h1
    exact False.elim h1
  | some b =>
    rw [q] at h1
    refine ⟨b, asB_at r1 q, ?_⟩
    cases b with
    | false => exact hb ρ S1 c1 σ H1 _ (n1.K.trans hK) k1 (e.nxt n1) (Res.post_mono h1 (fun _ _ g => g.nxt n1) fun _ _ z => z.nxt n1)
    | true => exact h1 c1 H1 _ n1 k1 (.bl _)
theorem se_notV (ha : SE W K ta da) : SE W K (tNotV ta) (dNotV da) := by
  intro ρ S c σ H Q hK k e h
  refine ha ρ S c σ H _ hK k e (Res.post_mono (Res.post_bind.mp h) (fun x S1 h1 => ?_) fun _ _ z => z)
  intro c1 H1 u n1 k1 r1
  obtain ⟨z, hz, g⟩ := ofO_post h1
  obtain ⟨b, h2, rfl⟩ := Option.map_eq_some_iff.mp hz
  exact ⟨b, asB_at r1 h2, g c1 H1 _ n1 k1 (.bl _)⟩
def dIf (d : DT) (da db : DE) : DE := fun ρ S => (d ρ S).bind fun b S1 => if b = true then da ρ S1 else db ρ S1
theorem se_if (ht : ST W K tT dT) (ha : SE W K ta da) (hb : SE W K tb db) : SE W K (tIf tT ta tb) (dIf dT da db) := by
  intro ρ S c σ H Q hK k e h
  refine ht ρ S c σ H _ hK k e (Res.post_mono (Res.post_bind.mp h) (fun b S1 h1 => ?_) fun _ _ z => z)
  intro c1 H1 n1 k1
  cases b with
  | true => exact ha ρ S1 c1 σ H1 _ (n1.K.trans hK) k1 (e.nxt n1) (Res.post_mono h1 (fun _ _ g => g.nxt n1) fun _ _ z => z.nxt n1)
  | false => exact hb ρ S1 c1 σ H1 _ (n1.K.trans hK) k1 (e.nxt n1) (Res.post_mono h1 (fun _ _ g => g.nxt n1) fun _ _ z => z.nxt n1)
def dChain (f g : AV → AV → Store → Option AV) (da db dc : DE) : DE := fun ρ S => (da ρ S).bind fun x S1 => (db ρ S1).bind fun y S2 => match (f x y S2).bind asB with
  | some true => (dc ρ S2).bind fun z S3 => ofO (g y z S3) S3
  | some false => .ok (.bl false) S2
  | none => .bad
theorem se_chain {r r' : R2} {f g : AV → AV → Store → Option AV} (o : SO2 K r f) (o' : SO2 K r' g) (ha : SE W K ta da) (hb : SE W K tb db) (hc : SE W K tc dc) : SE W K (tChain r r' ta tb tc) (dChain f g da db dc) := by
  intro ρ S c σ H Q hK k e h
  refine ha ρ S c σ H _ hK k e (Res.post_mono (Res.post_bind.mp h) (fun x S1 h1 => ?_) fun _ _ z => z)
  intro c1 H1 u n1 k1 r1
  refine hb ρ S1 c1 σ H1 _ (n1.K.trans hK) k1 (e.nxt n1) (Res.post_mono (Res.post_bind.mp h1) (fun y S2 h2 => ?_) fun _ _ z => z.nxt n1)
  intro c2 H2 v n2 k2 r2
  have n12 := n1.trans n2
  have hK2 := n12.K.trans hK
  cases q : (f x y S2).bind asB with
  | none =>
    rw [q] at h2
    exact False.elim h2
  | some b =>
    rw [q] at h2
    obtain ⟨z, hz, hb'⟩ := Option.bind_eq_some_iff.mp q
    refine o x y z S2 c2 u v H2 _ hK2 k2 (r1.nxt n2) r2 hz fun c3 H3 w n3 k3 r3 => ⟨b, asB_at r3 hb', ?_⟩
    have n13 := n12.trans n3
    cases b with
    | false => exact h2 c3 H3 _ n13 k3 (.bl _)
    | true =>
      refine hc ρ S2 c3 σ H3 _ (n13.K.trans hK) k3 (e.nxt n13) (Res.post_mono (Res.post_bind.mp h2) (fun z S3 h3 => ?_) fun _ _ z => z.nxt n13)
      intro c4 H4 w4 n4 k4 r4
      obtain ⟨q, hq, g4⟩ := ofO_post h3
      exact o' y z q S3 c4 v w4 H4 Q ((n13.trans n4).K.trans hK) k4 (r2.nxt (n3.trans n4)) r4 hq (g4.nxt (n13.trans n4))
end
end Dl
set_option Elab.async false
set_option linter.all false
set_option maxRecDepth 100000
set_option maxHeartbeats 4000000
namespace Dl
open PySem PySem.Spec PyProof.Rows L2 Evl Cm
/-! ### rules of the library put together, by what the values are -/
def rEqA (K : PySem.W.Frag) (neg : Bool) : R2 := fun x y H Q => ∃ d e, Dp K H x d ∧ Dp K H y e ∧ d.canLay0 = true ∧ e.canLay0 = true ∧ min d.depth e.depth ≤ 64 ∧ Q (.bl (if neg then !PyData.eqv d e else PyData.eqv d e)) H
theorem op_eqA {X : Cx} (hu : X.A.units + 65 < cLine) : OpR X (compareOp .Eq) (rEqA X.K false) := by
  intro pins s σ H x y v u Q I rx ry h
  obtain ⟨d, e, hd, he, l1, l2, hm, q⟩ := h
  obtain ⟨as, r1⟩ := Dp.reads I d x v hd rx
  obtain ⟨bs, r2⟩ := Dp.reads I e y u he ry
  exact SeqAt.compareEq_reads r1 r2 l1 l2 (by omega) ⟨.bl _, H, I, rfl, q⟩
theorem op_neA {X : Cx} (hu : X.A.units + 65 < cLine) : OpR X (compareOp .NotEq) (rEqA X.K true) := by
  intro pins s σ H x y v u Q I rx ry h
  obtain ⟨d, e, hd, he, l1, l2, hm, q⟩ := h
  obtain ⟨as, r1⟩ := Dp.reads I d x v hd rx
  obtain ⟨bs, r2⟩ := Dp.reads I e y u he ry
  exact SeqAt.compareNe_reads r1 r2 l1 l2 (by omega) ⟨.bl _, H, I, rfl, q⟩
def rInS (K : PySem.W.Frag) (neg : Bool) : R2 := fun x y H Q => ∃ d ds, Dp K H x d ∧ (Dp K H y (.list ds) ∨ Dp K H y (.tuple ds)) ∧ d.canLay0 = true ∧ PyData.canLayAll0 ds = true ∧ min (PyData.depthAll ds) d.depth ≤ 64 ∧ Q (.bl (if neg then !ds.any fun z => PyData.eqv z d else ds.any fun z => PyData.eqv z d)) H
theorem op_inQ {X : Cx} (hu : X.A.units + 65 < cLine) : OpR X (compareOp .In) (rInS X.K false) := by
  intro pins s σ H x y v u Q I rx ry h
  obtain ⟨d, ds, hd, he, l1, l2, hm, q⟩ := h
  obtain ⟨as, r1⟩ := Dp.reads I d x v hd rx
  rcases he with he | he
  · obtain ⟨bs, r2⟩ := Dp.reads I (.list ds) y u he ry
    exact SeqAt.in_list_reads r2 r1 l2 l1 (by omega) ⟨.bl _, H, I, rfl, q⟩
  · obtain ⟨bs, r2⟩ := Dp.reads I (.tuple ds) y u he ry
    exact SeqAt.in_tuple_reads r2 r1 l2 l1 (by omega) ⟨.bl _, H, I, rfl, q⟩
theorem op_notInQ {X : Cx} (hu : X.A.units + 65 < cLine) : OpR X (compareOp .NotIn) (rInS X.K true) := by
  intro pins s σ H x y v u Q I rx ry h
  obtain ⟨d, ds, hd, he, l1, l2, hm, q⟩ := h
  obtain ⟨as, r1⟩ := Dp.reads I d x v hd rx
  rcases he with he | he
  · obtain ⟨bs, r2⟩ := Dp.reads I (.list ds) y u he ry
    exact SeqAt.notIn_list_reads r2 r1 l2 l1 (by omega) ⟨.bl _, H, I, rfl, q⟩
  · obtain ⟨bs, r2⟩ := Dp.reads I (.tuple ds) y u he ry
    exact SeqAt.notIn_tuple_reads r2 r1 l2 l1 (by omega) ⟨.bl _, H, I, rfl, q⟩
def rInC (neg : Bool) : R2 := fun x y H Q => ∃ (c : Nat) (z : Str), x = .str ⟨#[c]⟩ ∧ y = .str z ∧ Q (.bl (if neg then !decide (c ∈ z.cps.toList) else decide (c ∈ z.cps.toList))) H
def rInDc (neg : Bool) : R2 := fun x y H Q => ∃ a o, y = .ref a ∧ DGet H a x o ∧ Q (.bl (if neg then !o.isSome else o.isSome)) H
theorem op_inDc {X : Cx} (hu : X.A.units + 65 < cLine) : OpR X (compareOp .In) (rInDc false) := by
  intro pins s σ H x y v u Q I rx ry h
  obtain ⟨a, o, rfl, g, q⟩ := h
  obtain rfl : u = Value.ref a := ry
  exact d_in (by omega) I g rx fun s' I' => ⟨.bl _, H, I', rfl, q⟩
theorem op_notInDc {X : Cx} (hu : X.A.units + 65 < cLine) : OpR X (compareOp .NotIn) (rInDc true) := by
  intro pins s σ H x y v u Q I rx ry h
  obtain ⟨a, o, rfl, g, q⟩ := h
  obtain rfl : u = Value.ref a := ry
  exact d_notIn (by omega) I g rx fun s' I' => ⟨.bl _, H, I', rfl, q⟩
/-- x in y, whatever y is -/
def rInA (K : PySem.W.Frag) (neg : Bool) : R2 := fun x y H Q => rInS K neg x y H Q ∨ rInC neg x y H Q ∨ rInDc neg x y H Q
theorem op_inA {X : Cx} (hu : X.A.units + 65 < cLine) : OpR X (compareOp .In) (rInA X.K false) := (op_inQ hu).or (OpR.or (op_in_sign (X := X)) (op_inDc hu))
theorem op_notInA {X : Cx} (hu : X.A.units + 65 < cLine) : OpR X (compareOp .NotIn) (rInA X.K true) := (op_notInQ hu).or (OpR.or (op_notIn_sign (X := X)) (op_notInDc hu))
def rAddS : R2 := fun x y H Q => ∃ i j, x = .str i ∧ y = .str j ∧ i.length + j.length ≤ sizeLine ∧ Q (.str (i ++ j)) H
def rAddA (K : PySem.W.Frag) : R2 := fun x y H Q => rI0 (fun i j => .int (i + j)) x y H Q ∨ rAddS x y H Q ∨ rCatA K x y H Q ∨ rCat x y H Q
theorem op_addA {X : Cx} : OpR X (binaryOp .Add) (rAddA X.K) := OpR.or op_add (OpR.or op_add_str (OpR.or op_catA op_cat))
def rIxDc : R2 := fun x y H Q => ∃ a v, x = .ref a ∧ DGet H a y (some v) ∧ Q v H
theorem ix_dct {X : Cx} (hu : X.A.units + 65 < cLine) : IxR X rIxDc := by
  intro value slice pins s σ H x y v u Q I rx ry h hs
  obtain ⟨a, r, rfl, g, q⟩ := h
  obtain rfl : v = Value.ref a := rx
  exact tail_any (dict_typeIs I g) slot_dict_getitem.lookup (d_getItem (by omega) I g ry fun w' s3 I3 rw' => ⟨r, H, I3, rw', q⟩) hs
def rIxN : R2 := fun x y H Q => ∃ a kvs k v, x = .ref a ∧ H a = some (nodO a kvs) ∧ y = optV k ∧ lookN kvs k = some v ∧ Q (optV v) H
theorem ix_nod {X : Cx} : IxR X rIxN := by
  intro value slice pins s σ H x y v u Q I rx ry h hs
  obtain ⟨a, kvs, k, r, rfl, hd, rfl, g, q⟩ := h
  obtain rfl : v = Value.ref a := rx
  obtain ⟨_, _, vs, rel, dd⟩ := nod_at I hd
  obtain ⟨w', hw, rw'⟩ := RelO.some_of (v := optV r) (o := valueAt vs (optK k)) (by have := rel.val (optK k); rw [valV_nod, g] at this; exact this)
  exact tail_any dd.typeIs slot_dict_getitem.lookup (wpAny_getItem_of (nod_is ry) dd.mapOf hw ⟨optV r, H, I.tok _, rw', q⟩) hs
def rIxA (K : PySem.W.Frag) : R2 := fun x y H Q => rIx K x y H Q ∨ rIxDc x y H Q ∨ rIxN x y H Q
theorem ix_any {X : Cx} (hu : X.A.units + 65 < cLine) : IxR X (rIxA X.K) := IxR.or ix_seq (IxR.or (ix_dct hu) ix_nod)
def rSlAny (K : PySem.W.Frag) : V → Option Int → Option Int → Hp → VK → Prop := fun x lo hi H Q => rSlL K x lo hi H Q ∨ rSlA K x lo hi H Q ∨ rSlS x lo hi H Q
theorem sl_any {X : Cx} : SlR X (rSlAny X.K) := SlR.or sl_list (SlR.or sl_tupA sl_str)
end Dl
set_option Elab.async false
set_option linter.all false
set_option maxRecDepth 100000
set_option maxHeartbeats 4000000
namespace Dl
open PySem PySem.Spec PyProof.Rows L2 Evl Cm
section
variable {W : WX} {K : PySem.W.Frag} {c : Co} {S : Store} {H : Hp} {x y z : AV} {u v : V} {xs ys : List AV} {us vs : List V}
theorem Rel.i {i : Int} (r : Rel c H (.int i) v) : v = .int i := by
  cases r
  rfl
theorem Rel.s {i : Str} (r : Rel c H (.str i) v) : v = .str i ∧ SOk i := by
  cases r with
  | str h => exact ⟨rfl, h⟩
/-! ### ints -/
def fI (g : Int → Int → AV) (C : Int → Int → Bool) : AV → AV → Store → Option AV
  | .int i, .int j, _ => if C i j then some (g i j) else none
  | _, _, _ => none
def c0 : Int → Int → Bool := fun _ _ => true
theorem so_I {p : Int → Int → Prop} {C : Int → Int → Bool} {g : Int → Int → V} {h : Int → Int → AV} (hp : ∀ i j, C i j = true → p i j) (hg : ∀ i j (c : Co) (H : Hp), Rel c H (h i j) (g i j)) : SO2 K (rI p g) (fI h C) := by
  intro x y z S c u v H Q hK k rx ry e q
  cases x with
  | int i =>
    cases y with
    | int j =>
      have e : (if C i j = true then some (h i j) else none) = some z := e
      split at e
      · rename_i hc
        cases e
        exact ⟨i, j, rx.i, ry.i, hp i j hc, q c H _ (Nxt.refl c H) k (hg i j c H)⟩
      · cases e
    | _ => cases e
  | _ => cases e
theorem so_I0 {g : Int → Int → V} {h : Int → Int → AV} (hg : ∀ i j (c : Co) (H : Hp), Rel c H (h i j) (g i j)) : SO2 K (rI0 g) (fI h c0) := by
  intro x y z S c u v H Q hK k rx ry e q
  cases x with
  | int i =>
    cases y with
    | int j =>
      cases (show some (h i j) = some z from e)
      exact ⟨i, j, rx.i, ry.i, q c H _ (Nxt.refl c H) k (hg i j c H)⟩
    | _ => cases e
  | _ => cases e
abbrev fSub := fI (fun i j => .int (i - j)) c0
abbrev fMod := fI (fun i j => .int (i % j)) (fun _ j => decide (0 < j))
abbrev fDiv := fI (fun i j => .int (i / j)) (fun _ j => decide (0 < j) && decide (j < 1073741824))
def mulB (i j : Int) : Bool := (decide (-(2 ^ 64) < i) && decide (i < 2 ^ 64)) || (decide (-(2 ^ 64) < j) && decide (j < 2 ^ 64))
abbrev fMul := fI (fun i j => .int (i * j)) mulB
def powB (i j : Int) : Bool := decide (0 ≤ j) && (decide (j ≤ 1000000) && decide (i.natAbs < 2 ^ 64))
abbrev fPow := fI (fun i j => .int (i ^ j.toNat)) powB
abbrev fLt := fI (fun i j => .bl (decide (i < j))) c0
abbrev fLe := fI (fun i j => .bl (decide (i ≤ j))) c0
abbrev fGt := fI (fun i j => .bl (decide (j < i))) c0
abbrev fGe := fI (fun i j => .bl (decide (j ≤ i))) c0
theorem so_sub : SO2 K (rI0 fun i j => .int (i - j)) fSub := so_I0 fun _ _ _ _ => .int _
theorem so_lt : SO2 K (rI0 fun i j => .bl (decide (i < j))) fLt := so_I0 fun _ _ _ _ => .bl _
theorem so_le : SO2 K (rI0 fun i j => .bl (decide (i ≤ j))) fLe := so_I0 fun _ _ _ _ => .bl _
theorem so_gt : SO2 K (rI0 fun i j => .bl (decide (j < i))) fGt := so_I0 fun _ _ _ _ => .bl _
theorem so_ge : SO2 K (rI0 fun i j => .bl (decide (j ≤ i))) fGe := so_I0 fun _ _ _ _ => .bl _
theorem so_mod : SO2 K (rI (fun _ j => 0 < j) fun i j => .int (i % j)) fMod := so_I (fun _ _ h => of_decide_eq_true h) fun _ _ _ _ => .int _
theorem so_fdiv : SO2 K (rI CDiv fun i j => .int (i / j)) fDiv := so_I (fun _ _ h => ⟨of_decide_eq_true (Bool.and_eq_true_iff.mp h).1, of_decide_eq_true (Bool.and_eq_true_iff.mp h).2⟩) fun _ _ _ _ => .int _
theorem so_mul : SO2 K (rI CMul fun i j => .int (i * j)) fMul := so_I (fun _ _ h => (Bool.or_eq_true_iff.mp h).imp (fun h => ⟨of_decide_eq_true (Bool.and_eq_true_iff.mp h).1, of_decide_eq_true (Bool.and_eq_true_iff.mp h).2⟩) (fun h => ⟨of_decide_eq_true (Bool.and_eq_true_iff.mp h).1, of_decide_eq_true (Bool.and_eq_true_iff.mp h).2⟩)) fun _ _ _ _ => .int _
theorem so_pow : SO2 K (rI CPow fun i j => .int (i ^ j.toNat)) fPow := so_I (fun _ _ h => ⟨of_decide_eq_true (Bool.and_eq_true_iff.mp h).1, of_decide_eq_true (Bool.and_eq_true_iff.mp (Bool.and_eq_true_iff.mp h).2).1, of_decide_eq_true (Bool.and_eq_true_iff.mp (Bool.and_eq_true_iff.mp h).2).2⟩) fun _ _ _ _ => .int _
def fNeg : AV → Store → Option AV
  | .int i, _ => some (.int (-i))
  | _, _ => none
theorem so_neg : SO1 K (rU fun i => .int (-i)) fNeg := by
  intro x z S c u H Q hK k rx e q
  cases x with
  | int i =>
    cases e
    exact ⟨i, rx.i, q c H _ (Nxt.refl c H) k (.int _)⟩
  | _ => cases e
/-! ### +, whatever the values are -/
def strMax : Nat := 1048576
theorem SOk.app {x y : Str} (a : SOk x) (b : SOk y) (h : x.length + y.length ≤ strMax) : SOk (x ++ y) := by
  refine ⟨?_, by rw [strLen_append]; exact h⟩
  have h1 : x.cps.all (· < 0x110000) = true := a.ok
  have h2 : y.cps.all (· < 0x110000) = true := b.ok
  show (x.cps ++ y.cps).all (· < 0x110000) = true
  rw [Array.all_append, h1, h2]
  rfl
def fAdd (x y : AV) (S : Store) : Option AV := match x with
  | .int i => (match y with
    | .int j => some (.int (i + j))
    | _ => none)
  | .str i => (match y with
    | .str j => if i.length + j.length ≤ strMax then some (.str (i ++ j)) else none
    | _ => none)
  | .tup _ xs => (match y with
    | .tup _ ys => if xs.length + ys.length ≤ lim then some (.tup false (xs ++ ys)) else none
    | _ => none)
  | x => (seqL S x).bind fun xs => (seqL S y).bind fun ys => if xs.length + ys.length ≤ lim then some (.lst (xs ++ ys)) else none
theorem so_add : SO2 K (rAddA K) fAdd := by
  intro x y z S c u v H Q hK k rx ry e q
  have cat : ∀ {x : AV}, Rel c H x u → ((seqL S x).bind fun xs => (seqL S y).bind fun ys => if xs.length + ys.length ≤ lim then some (AV.lst (xs ++ ys)) else none) = some z → rAddA K u v H Q := fun {x} rx e => by
    obtain ⟨xs, h1, e⟩ := Option.bind_eq_some_iff.mp e
    obtain ⟨ys, h2, e⟩ := Option.bind_eq_some_iff.mp e
    split at e
    · rename_i hl
      cases e
      obtain ⟨a, vs, rfl, h3, r3⟩ := seqL_at k rx h1
      obtain ⟨b, us, rfl, h4, r4⟩ := seqL_at k ry h2
      exact .inr (.inr (.inr ⟨a, b, vs, us, rfl, rfl, h3, h4, by rw [← r3.len, ← r4.len]; exact lim_line hl, fun p hp => q c _ _ (Nxt.new hp) (k.new hp) (new_lst k hp (r3.app r4))⟩))
    · cases e
  cases x with
  | int i =>
    cases y with
    | int j =>
      cases e
      exact .inl ⟨i, j, rx.i, ry.i, q c H _ (Nxt.refl c H) k (.int _)⟩
    | _ => cases e
  | str i =>
    cases y with
    | str j =>
      have e : (if i.length + j.length ≤ strMax then some (AV.str (i ++ j)) else none) = some z := e
      split at e
      · rename_i hl
        cases e
        obtain ⟨e1, s1⟩ := rx.s
        obtain ⟨e2, s2⟩ := ry.s
        exact .inr (.inl ⟨i, j, e1, e2, by rw [sizeLine_eq]; unfold strMax at hl; omega, q c H _ (Nxt.refl c H) k (.str (s1.app s2 hl))⟩)
      · cases e
    | _ => cases e
  | tup p xs =>
    cases y with
    | tup p' ys =>
      have e : (if xs.length + ys.length ≤ lim then some (AV.tup false (xs ++ ys)) else none) = some z := e
      split at e
      · rename_i hl
        cases e
        cases rx with
        | tup h1 _ r1 =>
          cases ry with
          | tup h2 _ r2 =>
            subst hK
            refine .inr (.inr (.inl ⟨_, _, _, _, rfl, rfl, h1, h2, by rw [← r1.len, ← r2.len]; exact lim_line hl, fun e0 => ?_, fun _ e1 => ?_, fun _ _ p hp => ?_⟩))
            · refine q c H _ (Nxt.refl c H) k ?_
              rw [r1.nil_iff.mpr e0]
              exact .tup h2 (fun z => Bool.noConfusion z) r2
            · refine q c H _ (Nxt.refl c H) k ?_
              rw [r2.nil_iff.mpr e1, List.append_nil]
              exact .tup h1 (fun z => Bool.noConfusion z) r1
            · exact q c _ _ (Nxt.new hp) (k.new hp) (new_tup hp (r1.app r2))
      · cases e
    | _ => cases e
  | _ => exact cat rx (by exact e)
/-! ### == and in -/
def fEq (neg : Bool) (x y : AV) (S : Store) : Option AV := (datOf S x).bind fun d => (datOf S y).bind fun e => if min d.depth e.depth ≤ 64 then some (.bl (if neg then !PyData.eqv d e else PyData.eqv d e)) else none
theorem so_eq {neg : Bool} : SO2 K (rEqA K neg) (fEq neg) := by
  intro x y z S c u v H Q hK k rx ry e q
  subst hK
  obtain ⟨d, h1, e⟩ := Option.bind_eq_some_iff.mp e
  obtain ⟨d', h2, e⟩ := Option.bind_eq_some_iff.mp e
  split at e
  · rename_i hm
    cases e
    obtain ⟨a1, l1⟩ := datOf_at k rx h1
    obtain ⟨a2, l2⟩ := datOf_at k ry h2
    exact ⟨d, d', a1, a2, l1, l2, hm, q c H _ (Nxt.refl c H) k (.bl _)⟩
  · cases e
/-- the value of a key -/
def keyEq : AV → AV → Bool
  | .int i, .int j => decide (i = j)
  | .str i, .str j => decide (i = j)
  | _, _ => false
def isKey : AV → Bool
  | .int _ => true
  | .str _ => true
  | _ => false
def look : List (AV × AV) → AV → Option AV
  | [], _ => none
  | (k, x) :: r, q => if keyEq k q then some x else look r q
def putA : List (AV × AV) → AV → AV → List (AV × AV)
  | [], q, x => [(q, x)]
  | (k, y) :: r, q, x => if keyEq k q then (k, x) :: r else (k, y) :: putA r q x
theorem key_rel {k : AV} (r : Rel c H k u) (h : isKey k = true) : ∃ q, u = kV q ∧ ∀ k' q', Rel c H k' (kV q') → keyEq k' k = decide (q' = q) := by
  cases k with
  | int i =>
    refine ⟨.inl i, r.i, fun k' q' r' => ?_⟩
    cases q' with
    | inl j =>
      cases k' with
      | int j' =>
        cases (r'.i : V.int j = V.int j')
        show decide (j = i) = decide ((Sum.inl j : Key) = Sum.inl i)
        by_cases h : j = i
        · simp [h]
        · simp [h]
      | _ => cases r'
    | inr j =>
      cases k' with
      | str j' => 
        show false = decide ((Sum.inr j : Key) = Sum.inl i)
        simp
      | _ => cases r'
  | str i =>
    refine ⟨.inr i, r.s.1, fun k' q' r' => ?_⟩
    cases q' with
    | inr j =>
      cases k' with
      | str j' =>
        cases (r'.s.1 : V.str j = V.str j')
        show decide (j = i) = decide ((Sum.inr j : Key) = Sum.inr i)
        by_cases h : j = i
        · simp [h]
        · simp [h]
      | _ => cases r'
    | inl j =>
      cases k' with
      | int j' =>
        show false = decide ((Sum.inl j : Key) = Sum.inr i)
        simp
      | _ => cases r'
  | _ => cases h
theorem Relk.look {k : AV} {q : Key} (hk : ∀ k' q', Rel c H k' (kV q') → keyEq k' k = decide (q' = q)) : ∀ {xs : List (AV × AV)} {vs : List (Key × V)}, Relk c H xs vs →
    match look xs k, valV vs q with
    | some x, some v => Rel c H x v
    | none, none => True
    | _, _ => False
  | _, _, .nil => trivial
  | (k', x) :: xs, (q', v) :: vs, .cons r1 r2 t => by
    unfold Dl.look
    rw [hk k' q' r1]
    by_cases h : q' = q
    · rw [valV_pos (p := (q', v)) h, decide_eq_true h]
      simp only [if_true]
      exact r2
    · rw [valV_neg (p := (q', v)) h, decide_eq_false h]
      simp only [Bool.false_eq_true, if_false]
      exact Relk.look hk t
def dicOf (S : Store) : AV → Option (List (AV × AV))
  | .dic xs => some xs
  | .ref i => stD S i
  | _ => none
theorem dicOf_at {ks : List (AV × AV)} (k : Cor c S H) (r : Rel c H x v) (e : dicOf S x = some ks) : ∃ a kws, v = .ref a ∧ H a = some (.dK kws) ∧ Relk c H ks kws := by
  cases x with
  | dic ys =>
    cases e
    cases r with
    | dic h _ rs => exact ⟨_, _, rfl, h, rs⟩
  | ref i =>
    have e : stD S i = some ks := e
    obtain ⟨a, rfl, _, vs, h, rs⟩ := k.obj r (stD_eq.mp e)
    exact ⟨a, vs, rfl, h, rs⟩
  | _ => cases e
/-- a key's value in the heap -/
theorem dget_at {ks : List (AV × AV)} (k : Cor c S H) (r : Rel c H x v) (e : dicOf S x = some ks) (ry : Rel c H y u) (hy : isKey y = true) : ∃ a o, v = .ref a ∧ DGet H a u o ∧
    (match look ks y, o with
    | some x, some v => Rel c H x v
    | none, none => True
    | _, _ => False) := by
  obtain ⟨a, kws, rfl, h, rs⟩ := dicOf_at k r e
  obtain ⟨q, rfl, hq⟩ := key_rel ry hy
  exact ⟨a, _, rfl, DGet.k h, rs.look hq⟩
def memV (x : AV) (ys : List AV) : Bool := ys.any fun y => PyData.eqv y.py x.py
theorem pys_map (xs : List AV) : pys xs = xs.map AV.py := by
  induction xs with
  | nil => rfl
  | cons x r ih =>
    unfold pys
    rw [ih]
    rfl
theorem memV_any (x : AV) (ys : List AV) : ((pys ys).any fun z => PyData.eqv z x.py) = memV x ys := by
  rw [pys_map, List.any_map]
  rfl
def fInS (neg : Bool) (x y : AV) (S : Store) : Option AV := (seqA S y).bind fun ys => if x.isD && isDs ys && decide (min (PyData.depthAll (pys ys)) x.py.depth ≤ 64) then some (.bl (if neg then !memV x ys else memV x ys)) else none
def fIn (neg : Bool) (x y : AV) (S : Store) : Option AV := match y with
  | .str z => (match x with
    | .str w => (match w.cps.toList with
      | [c] => some (.bl (if neg then !decide (c ∈ z.cps.toList) else decide (c ∈ z.cps.toList)))
      | _ => none)
    | _ => none)
  | y => match dicOf S y with
    | some ks => if isKey x then some (.bl (if neg then !(look ks x).isSome else (look ks x).isSome)) else none
    | none => fInS neg x y S
theorem str_one {w : Str} {n : Nat} (h : w.cps.toList = [n]) : w = ⟨#[n]⟩ := by
  obtain ⟨a⟩ := w
  have : a = #[n] := by
    apply Array.ext'
    exact h
  rw [this]
theorem so_in {neg : Bool} : SO2 K (rInA K neg) (fIn neg) := by
  intro x y z S c u v H Q hK k rx ry e q
  have other : ∀ {y : AV}, Rel c H y v → (match dicOf S y with
    | some ks => if isKey x then some (.bl (if neg then !(look ks x).isSome else (look ks x).isSome)) else none
    | none => fInS neg x y S) = some z → rInA K neg u v H Q := fun {y} ry e => by
    cases hd : dicOf S y with
    | some ks =>
      rw [hd] at e
      simp only at e
      split at e
      · rename_i hk
        cases e
        obtain ⟨a, o, rfl, g, m⟩ := dget_at k ry hd rx hk
        refine .inr (.inr ⟨a, o, rfl, g, ?_⟩)
        have : o.isSome = (look ks x).isSome := by
          cases h1 : look ks x <;> cases o <;> rw [h1] at m <;> first | rfl | exact False.elim m
        rw [this]
        exact q c H _ (Nxt.refl c H) k (.bl _)
      · cases e
    | none =>
      rw [hd] at e
      obtain ⟨ys, h1, e⟩ := Option.bind_eq_some_iff.mp e
      split at e
      · rename_i hc
        cases e
        obtain ⟨hc, h3⟩ := Bool.and_eq_true_iff.mp hc
        obtain ⟨h4, h5⟩ := Bool.and_eq_true_iff.mp hc
        obtain ⟨a, vs, rfl, hs, rs⟩ := seqA_at hK k ry h1
        subst hK
        obtain ⟨a1, l1⟩ := rx.dp h4
        obtain ⟨a2, l2⟩ := rs.dp h5
        refine .inl ⟨_, _, a1, hs.imp (fun h => .lst h a2) (fun h => .tup h a2), l1, l2, of_decide_eq_true h3, ?_⟩
        rw [memV_any]
        exact q c H _ (Nxt.refl c H) k (.bl _)
      · cases e
  cases y with
  | str z' =>
    cases x with
    | str w =>
      have e : (match w.cps.toList with
        | [c] => some (AV.bl (if neg then !decide (c ∈ z'.cps.toList) else decide (c ∈ z'.cps.toList)))
        | _ => none) = some z := e
      cases hw : w.cps.toList with
      | nil =>
        rw [hw] at e
        cases e
      | cons n r =>
        rw [hw] at e
        cases r with
        | nil =>
          cases e
          obtain ⟨e1, s1⟩ := rx.s
          obtain ⟨e2, s2⟩ := ry.s
          rw [str_one hw] at e1
          exact .inr (.inl ⟨n, z', e1, e2, q c H _ (Nxt.refl c H) k (.bl _)⟩)
        | cons m r => cases e
    | _ => cases e
  | _ => exact other ry (by exact e)
def fIsN (neg : Bool) (x y : AV) (_ : Store) : Option AV := match y with
  | .non => some (.bl (match x with
    | .non => !neg
    | _ => neg))
  | _ => none
theorem non_iff (r : Rel c H x v) : decide (v = .non) = (match x with
    | .non => true
    | _ => false) := by
  cases r <;> simp
theorem so_isN : SO2 K (fun x y H Q => y = .non ∧ Q (.bl (decide (x = .non))) H) (fIsN false) := by
  intro x y z S c u v H Q hK k rx ry e q
  cases y with
  | non =>
    cases ry
    refine ⟨rfl, ?_⟩
    rw [non_iff rx]
    cases e
    refine q c H _ (Nxt.refl c H) k ?_
    cases x <;> exact .bl _
  | _ => cases e
theorem so_notN : SO2 K (fun x y H Q => y = .non ∧ Q (.bl (!decide (x = .non))) H) (fIsN true) := by
  intro x y z S c u v H Q hK k rx ry e q
  cases y with
  | non =>
    cases ry
    refine ⟨rfl, ?_⟩
    rw [non_iff rx]
    cases e
    refine q c H _ (Nxt.refl c H) k ?_
    cases x <;> exact .bl _
  | _ => cases e
/-! ### x[i] -/
theorem SOk.sign {z : Str} {n : Nat} (h : SOk z) (hn : n ∈ z.cps.toList) : SOk ⟨#[n]⟩ := by
  refine ⟨?_, by show 1 ≤ 1048576; omega⟩
  have h1 : z.cps.all (· < 0x110000) = true := h.ok
  have h2 : n < 0x110000 := by
    have := Array.all_eq_true'.mp h1 n (by simpa using hn)
    simpa using this
  show (#[n] : Array Nat).all (· < 0x110000) = true
  simp [h2]
theorem atI_mem {α : Type} {xs : List α} {i : Int} {x : α} (h : atI xs i = some x) : x ∈ xs := by
  unfold atI at h
  obtain ⟨j, _, h2⟩ := Option.bind_eq_some_iff.mp h
  exact List.mem_of_getElem? h2
def optA : Option Int → AV
  | none => .non
  | some i => .int i
def optI : AV → Option (Option Int)
  | .non => some none
  | .int i => some (some i)
  | _ => none
theorem optI_at {k : Option Int} (r : Rel c H y u) (e : optI y = some k) : u = optV k := by
  cases y with
  | non =>
    cases e
    cases r
    rfl
  | int i =>
    cases e
    cases r
    rfl
  | _ => cases e
theorem optA_rel (k : Option Int) : Rel c H (optA k) (optV k) := by
  cases k with
  | none => exact .non
  | some i => exact .int i
def nodOf (S : Store) : AV → Option (List (Option Int × Option Int))
  | .ref i => stN S i
  | _ => none
theorem nodOf_at {ks : List (Option Int × Option Int)} (k : Cor c S H) (r : Rel c H x v) (e : nodOf S x = some ks) : ∃ a, v = .ref a ∧ H a = some (nodO a ks) := by
  cases x with
  | ref i =>
    obtain ⟨a, rfl, _, h⟩ := k.obj r (stN_eq.mp (show stN S i = some ks from e))
    exact ⟨a, rfl, h⟩
  | _ => cases e
def fIxS (x y : AV) (S : Store) : Option AV := match y with
  | .int i => (seqA S x).bind fun xs => atI xs i
  | _ => none
def fIx (x y : AV) (S : Store) : Option AV := match x with
  | .str z => (match y with
    | .int i => (atI z.cps.toList i).map fun n => .str ⟨#[n]⟩
    | _ => none)
  | x => match dicOf S x with
    | some ks => if isKey y then look ks y else none
    | none => match nodOf S x, optI y with
      | some ks, some k => (lookN ks k).map optA
      | some _, none => none
      | none, _ => fIxS x y S
theorem so_ix : SO2 K (rIxA K) fIx := by
  intro x y z S c u v H Q hK k rx ry e q
  have other : ∀ {x : AV}, Rel c H x u → (match dicOf S x with
    | some ks => if isKey y then look ks y else none
    | none => match nodOf S x, optI y with
      | some ks, some k => (lookN ks k).map optA
      | some _, none => none
      | none, _ => fIxS x y S) = some z → rIxA K u v H Q := fun {x} rx e => by
    cases hd : dicOf S x with
    | some ks =>
      rw [hd] at e
      simp only at e
      split at e
      · rename_i hk
        obtain ⟨a, o, rfl, g, m⟩ := dget_at k rx hd ry hk
        rw [e] at m
        cases o with
        | none => exact False.elim m
        | some w => exact .inr (.inl ⟨a, w, rfl, g, q c H w (Nxt.refl c H) k m⟩)
      · cases e
    | none =>
      rw [hd] at e
      simp only at e
      split at e
      · rename_i ks j hn ho
        obtain ⟨a, rfl, h1⟩ := nodOf_at k rx hn
        obtain ⟨w, hw, hz⟩ := Option.map_eq_some_iff.mp e
        subst hz
        exact .inr (.inr ⟨a, ks, j, w, rfl, h1, optI_at ry ho, hw, q c H _ (Nxt.refl c H) k (optA_rel w)⟩)
      · cases e
      cases y with
      | int i =>
        have e : ((seqA S x).bind fun xs => atI xs i) = some z := e
        obtain ⟨xs, h1, e⟩ := Option.bind_eq_some_iff.mp e
        obtain ⟨a, vs, rfl, hs, rs⟩ := seqA_at hK k rx h1
        obtain ⟨w, hw, rw'⟩ := rs.atI e
        refine .inl (hs.elim (fun h => .inl ⟨a, vs, i, w, rfl, ry.i, h, hw, q c H w (Nxt.refl c H) k rw'⟩) fun h => .inr (.inl ⟨a, vs, i, w, rfl, ry.i, h, hw, q c H w (Nxt.refl c H) k rw'⟩))
      | _ => cases e
  cases x with
  | str z' =>
    cases y with
    | int i =>
      have e : ((atI z'.cps.toList i).map fun n => AV.str ⟨#[n]⟩) = some z := e
      obtain ⟨n, h1, h2⟩ := Option.map_eq_some_iff.mp e
      obtain ⟨e1, s1⟩ := rx.s
      subst h2
      exact .inl (.inr (.inr ⟨z', i, n, e1, ry.i, by have := s1.len; rw [sizeLine_eq]; omega, h1, q c H _ (Nxt.refl c H) k (.str (s1.sign (atI_mem h1)))⟩))
    | _ => cases e
  | _ => exact other rx (by exact e)
end
end Dl
set_option Elab.async false
set_option linter.all false
set_option maxRecDepth 100000
set_option maxHeartbeats 4000000
namespace Dl
open PySem PySem.Spec PyProof.Rows L2 Evl Cm
section
variable {W : WX} {K : PySem.W.Frag} {c : Co} {S : Store} {H : Hp} {x y z : AV} {u v : V} {xs ys : List AV} {us vs : List V} {te ta : TE} {da : DE} {tl th : TO}
/-! ### slices -/
abbrev DO := Env → Store → Res (Option Int)
def SOp (W : WX) (K : PySem.W.Frag) (t : TO) (d : DO) : Prop := ∀ (ρ : Env) (S : Store) (c : Co) (σ : L2.St) (H : Hp) (Q : Option Int → Hp → Prop), c.K = K → Cor c S H → EnvR c H ρ σ →
  (d ρ S).post (fun b S' => ∀ c' H', Nxt c H c' H' → Cor c' S' H' → Q b H') (Fall c H (WE W σ)) → t σ H Q
def dNo : DO := fun _ S => .ok none S
def asI : AV → Option (Option Int)
  | .int i => some (some i)
  | _ => none
def dSo (da : DE) : DO := fun ρ S => (da ρ S).bind fun x S1 => ofO (asI x) S1
theorem sp_none : SOp W K tNoPart dNo := fun _ _ c _ H _ _ k _ h => h c H (Nxt.refl c H) k
theorem sp_some (ha : SE W K ta da) : SOp W K (tPart ta) (dSo da) := by
  intro ρ S c σ H Q hK k e h
  refine ha ρ S c σ H _ hK k e (Res.post_mono (Res.post_bind.mp h) (fun x S1 h1 => ?_) fun _ _ z => z)
  intro c1 H1 u n1 k1 r1
  obtain ⟨o, ho, g⟩ := ofO_post h1
  cases x with
  | int i =>
    cases ho
    exact ⟨i, r1.i, g c1 H1 n1 k1⟩
  | _ => cases ho
def cutA (xs : List AV) (lo hi : Option Int) : List AV := (xs.drop (HT.sIx xs.length 0 lo)).take (HT.sIx xs.length xs.length hi - HT.sIx xs.length 0 lo)
theorem Rels.cut (r : Rels c H xs vs) (lo hi : Option Int) : Rels c H (cutA xs lo hi) (cutV vs lo hi) := by
  unfold cutA cutV
  rw [r.len]
  exact (r.drop _).take _
def fSl (x : AV) (lo hi : Option Int) (S : Store) : Option AV := match x with
  | .str z => some (.str (cutS z lo hi))
  | .tup _ xs => some (.tup false (cutA xs lo hi))
  | x => (seqL S x).map fun xs => .lst (cutA xs lo hi)
theorem SOk.cut {z : Str} (h : SOk z) (lo hi : Option Int) : SOk (cutS z lo hi) := by
  refine ⟨?_, Nat.le_trans (cutS_le z lo hi) h.len⟩
  have h1 : z.cps.all (· < 0x110000) = true := h.ok
  show (List.toArray _).all (· < 0x110000) = true
  rw [Array.all_eq_true'] at h1 ⊢
  intro n hn
  refine h1 n ?_
  rw [List.mem_toArray] at hn
  have := List.mem_of_mem_drop (List.mem_of_mem_take hn)
  simpa using this
def dSl (da : DE) (dl dh : DO) : DE := fun ρ S => (da ρ S).bind fun x S1 => (dl ρ S1).bind fun l S2 => (dh ρ S2).bind fun h S3 => ofO (fSl x l h S3) S3
theorem se_sl {dl dh : DO} (ha : SE W K ta da) (hl : SOp W K tl dl) (hh : SOp W K th dh) : SE W K (tSl (rSlAny K) ta tl th) (dSl da dl dh) := by
  intro ρ S c σ H Q hK k e h
  refine ha ρ S c σ H _ hK k e (Res.post_mono (Res.post_bind.mp h) (fun x S1 h1 => ?_) fun _ _ z => z)
  intro c1 H1 u n1 k1 r1
  refine hl ρ S1 c1 σ H1 _ (n1.K.trans hK) k1 (e.nxt n1) (Res.post_mono (Res.post_bind.mp h1) (fun l S2 h2 => ?_) fun _ _ z => z.nxt n1)
  intro c2 H2 n2 k2
  have n12 := n1.trans n2
  refine hh ρ S2 c2 σ H2 _ (n12.K.trans hK) k2 (e.nxt n12) (Res.post_mono (Res.post_bind.mp h2) (fun hi S3 h3 => ?_) fun _ _ z => z.nxt n12)
  intro c3 H3 n3 k3
  have n13 := n12.trans n3
  have r3 := r1.nxt (n2.trans n3)
  have hK3 := n13.K.trans hK
  obtain ⟨z, hz, g⟩ := ofO_post h3
  have g : Good c3 H3 Q z S3 := Good.nxt g n13
  have lst : ∀ {x : AV}, Rel c3 H3 x u → ((seqL S3 x).map fun xs => AV.lst (cutA xs l hi)) = some z → rSlAny K u l hi H3 Q := fun {x} r3 e => by
    obtain ⟨xs, h1, h2⟩ := Option.map_eq_some_iff.mp e
    subst h2
    obtain ⟨a, vs, rfl, h3, rs⟩ := seqL_at k3 r3 h1
    exact .inl ⟨a, vs, rfl, sq_of h3, fun p hp => g c3 _ _ (Nxt.new hp) (k3.new hp) (new_lst k3 hp (rs.cut l hi))⟩
  cases x with
  | str z' =>
    cases hz
    obtain ⟨e1, s1⟩ := r3.s
    exact .inr (.inr ⟨z', e1, by have := s1.len; rw [sizeLine_eq]; omega, g c3 H3 _ (Nxt.refl c3 H3) k3 (.str (s1.cut l hi))⟩)
  | tup p' xs =>
    cases hz
    cases r3 with
    | tup h _ rs =>
      rw [hK3] at h
      refine .inr (.inl ⟨_, _, rfl, h, fun w => ?_, fun _ p hp => g c3 _ _ (Nxt.new hp) (k3.new hp) (new_tup hp (rs.cut l hi))⟩)
      refine g c3 H3 _ (Nxt.refl c3 H3) k3 ?_
      have e : cutA xs l hi = xs := by
        unfold cutA
        rw [rs.len, w.1, w.2, List.drop_zero, Nat.sub_zero, ← rs.len, List.take_length]
      rw [e]
      exact .tup (by rw [hK3]; exact h) (fun z => Bool.noConfusion z) rs
  | _ => exact lst r3 (by exact hz)
/-! ### built-in functions -/
def fLen (xs : List AV) (S : Store) : Option AV := match xs with
  | [.str z] => some (.int z.length)
  | [x] => match dicOf S x with
    | some ks => some (.int ks.length)
    | none => (seqA S x).map fun ys => .int ys.length
  | _ => none
theorem Relk.len : ∀ {xs : List (AV × AV)} {vs : List (Key × V)}, Relk c H xs vs → xs.length = vs.length
  | _, _, .nil => rfl
  | _, _, .cons _ _ r => congrArg (· + 1) (Relk.len r)
def rLenA (K : PySem.W.Frag) : List V → Hp → VK → Prop := fun xs H Q => (∃ x n, xs = [x] ∧ LenV K x H n ∧ Q (.int n) H) ∨ ∃ a kvs, xs = [V.ref a] ∧ H a = some (.dK kvs) ∧ Q (.int kvs.length) H
theorem call_lenA {X : Cx} : CallR X (.builtin "len") (rLenA X.K) := CallR.or call_len call_lenD
theorem sc_len : SCn K (rLenA K) fLen := by
  intro xs z S c us H Q hK k rs e q
  cases rs with
  | nil => cases e
  | @cons x u xs us r rs =>
    cases rs with
    | cons _ _ => cases x <;> cases e
    | nil =>
      have other : ∀ {x : AV}, Rel c H x u → (match dicOf S x with
        | some ks => some (AV.int ks.length)
        | none => (seqA S x).map fun ys => .int ys.length) = some z → rLenA K [u] H Q := fun {x} r e => by
        cases hd : dicOf S x with
        | some ks =>
          rw [hd] at e
          cases e
          obtain ⟨a, kws, rfl, h, rk⟩ := dicOf_at k r hd
          refine .inr ⟨a, kws, rfl, h, ?_⟩
          rw [← rk.len]
          exact q c H _ (Nxt.refl c H) k (.int _)
        | none =>
          rw [hd] at e
          obtain ⟨ys, h1, h2⟩ := Option.map_eq_some_iff.mp e
          subst h2
          obtain ⟨a, vs, rfl, hs, rs⟩ := seqA_at hK k r h1
          refine .inl ⟨_, ys.length, rfl, ?_, q c H _ (Nxt.refl c H) k (.int _)⟩
          rw [rs.len]
          exact hs.imp (fun h => ⟨vs, h, rfl⟩) fun h => ⟨vs, h, rfl⟩
      cases x with
      | str w =>
        cases e
        obtain ⟨e1, s1⟩ := r.s
        subst e1
        exact .inl ⟨_, w.length, rfl, ⟨by have := s1.len; rw [sizeLine_eq]; omega, rfl⟩, q c H _ (Nxt.refl c H) k (.int _)⟩
      | _ => exact other r (by exact e)
/-- the kinds of values -/
def isTy (T : String) (S : Store) : AV → Option Bool
  | .non => some (T == "NoneType")
  | .bl _ => some (T == "bool" || T == "int")
  | .int _ => some (T == "int")
  | .str _ => some (T == "str")
  | .tup _ _ => some (T == "tuple")
  | .lst _ => some (T == "list")
  | .dic _ => some (T == "dict")
  | .ref i => match S[i]? with
    | some (.lst _) => some (T == "list")
    | some (.dic _) => some (T == "dict")
    | _ => none
  | _ => none
def BT (T : String) : Prop := T = "tuple" ∨ T = "list" ∨ T = "bool" ∨ T = "int" ∨ T = "str" ∨ T = "dict"
theorem isTy_at {T : String} {b : Bool} (hT : BT T) (hK : c.K = K) (k : Cor c S H) (r : Rel c H x v) (e : isTy T S x = some b) : ∃ t, TyX K H v t ∧ PySem.W.kitOne K t (.type T) = some b := by
  have kb : ∀ (d : PyData) , PySem.W.kitOne K (.type (tyD d)) (.type T) = some (isA T d) := fun d => kit_ty (kit_isA hT d)
  cases x with
  | non => cases e; cases r; exact ⟨_, .base .non, kb .none⟩
  | bl b => cases e; cases r; exact ⟨_, .base (.bl _), kb (.bool b)⟩
  | int i => cases e; cases r; exact ⟨_, .base (.int _), kb (.int i)⟩
  | str i => cases e; cases r; exact ⟨_, .base (.str _), kb (.str i)⟩
  | tup p xs =>
    cases e
    subst hK
    cases r with
    | tup h _ rs =>
      rcases h with (h | ⟨o, h⟩) | ⟨o, its, n, h1, h2, _⟩
      · exact ⟨_, .base (.tup h), kb (.tuple [])⟩
      · exact ⟨_, .fTuple h, kb (.tuple [])⟩
      · exact ⟨_, .kTuple h1 h2, kb (.tuple [])⟩
  | lst xs =>
    cases e
    cases r with
    | lst h _ rs => exact ⟨_, .base (.lst h), kb (.list [])⟩
  | dic xs =>
    cases e
    cases r with
    | dic h _ rs => exact ⟨_, .base (.dK h), kb (.dict [])⟩
  | ref i =>
    have e : (match S[i]? with
      | some (.lst _) => some (T == "list")
      | some (.dic _) => some (T == "dict")
      | _ => none) = some b := e
    cases q : S[i]? with
    | none =>
      rw [q] at e
      cases e
    | some o =>
      rw [q] at e
      obtain ⟨a, rfl, _, ro⟩ := k.obj r q
      cases o with
      | lst ys =>
        cases e
        obtain ⟨vs, h, _⟩ := ro
        exact ⟨_, .base (.lst h), kb (.list [])⟩
      | dic ys =>
        cases e
        obtain ⟨vs, h, _⟩ := ro
        exact ⟨_, .base (.dK h), kb (.dict [])⟩
      | obj n fs => cases e
      | nod ks => cases e
      | lkd ks => cases e
  | _ => cases e
def dIsi (T : String) (da : DE) : DE := fun ρ S => (da ρ S).bind fun x S1 => ofO ((isTy T S1 x).map .bl) S1
theorem se_isi {T : String} (hT : BT T) (ha : SE W K ta da) : SE W K (tCB (rIsi K) (tCons ta (tCons (tC (.ty T)) tNil))) (dIsi T da) := by
  intro ρ S c σ H Q hK k e h
  refine ha ρ S c σ H _ hK k e (Res.post_mono (Res.post_bind.mp h) (fun x S1 h1 => ?_) fun _ _ z => z)
  intro c1 H1 u n1 k1 r1
  obtain ⟨z, hz, g⟩ := ofO_post h1
  obtain ⟨b, h2, h3⟩ := Option.map_eq_some_iff.mp hz
  subst h3
  obtain ⟨t, h4, h5⟩ := isTy_at hT (n1.K.trans hK) k1 r1 h2
  exact ⟨u, .ty T, t, .type T, b, rfl, .ty T, h4, h5, g c1 H1 _ n1 k1 (.bl _)⟩
theorem bt_tuple : BT "tuple" := .inl rfl
theorem bt_list : BT "list" := .inr (.inl rfl)
theorem bt_bool : BT "bool" := .inr (.inr (.inl rfl))
theorem bt_int : BT "int" := .inr (.inr (.inr (.inl rfl)))
theorem bt_str : BT "str" := .inr (.inr (.inr (.inr (.inl rfl))))
theorem bt_dict : BT "dict" := .inr (.inr (.inr (.inr (.inr rfl))))
def fAbs (xs : List AV) (_ : Store) : Option AV := match xs with
  | [.int i] => some (.int (if i < 0 then -i else i))
  | _ => none
theorem sc_abs : SCn K (fun xs H Q => ∃ i, xs = [.int i] ∧ Q (.int (if i < 0 then -i else i)) H) fAbs := by
  intro xs z S c us H Q hK k rs e q
  cases rs with
  | nil => cases e
  | @cons x u xs us r rs =>
    cases x with
    | int i =>
      cases rs with
      | cons _ _ => cases e
      | nil =>
        cases e
        exact ⟨i, by rw [r.i], q c H _ (Nxt.refl c H) k (.int _)⟩
    | _ => cases e
def fInt (xs : List AV) (_ : Store) : Option AV := match xs with
  | [.int i] => some (.int i)
  | [.bl b] => some (.int (if b then 1 else 0))
  | _ => none
theorem sc_int : SCn K (fun xs H Q => (∃ i, xs = [.int i] ∧ Q (.int i) H) ∨ ∃ k, xs = [.bl k] ∧ Q (.int (if k then 1 else 0)) H) fInt := by
  intro xs z S c us H Q hK k rs e q
  cases rs with
  | nil => cases e
  | @cons x u xs us r rs =>
    cases x with
    | int i =>
      cases rs with
      | cons _ _ => cases e
      | nil =>
        cases e
        exact .inl ⟨i, by rw [r.i], q c H _ (Nxt.refl c H) k (.int _)⟩
    | bl b =>
      cases rs with
      | cons _ _ => cases e
      | nil =>
        cases e
        cases r
        exact .inr ⟨b, rfl, q c H _ (Nxt.refl c H) k (.int _)⟩
    | _ => cases e
def fMax2 (xs : List AV) (_ : Store) : Option AV := match xs with
  | [.int i, .int j] => some (.int (if j > i then j else i))
  | _ => none
def fMin2 (xs : List AV) (_ : Store) : Option AV := match xs with
  | [.int i, .int j] => some (.int (if j < i then j else i))
  | _ => none
theorem two {P : Prop} (rs : Rels c H xs us) {i j : Int} (e : xs = [.int i, .int j]) : us = [.int i, .int j] := by
  subst e
  cases rs with
  | cons r rs =>
    cases rs with
    | cons r2 rs =>
      cases rs
      rw [r.i, r2.i]
theorem fMax2_eq (e : fMax2 xs S = some z) : ∃ i j, xs = [.int i, .int j] ∧ z = .int (if j > i then j else i) := by
  unfold fMax2 at e
  split at e
  · exact ⟨_, _, rfl, (Option.some.inj e).symm⟩
  · cases e
theorem fMin2_eq (e : fMin2 xs S = some z) : ∃ i j, xs = [.int i, .int j] ∧ z = .int (if j < i then j else i) := by
  unfold fMin2 at e
  split at e
  · exact ⟨_, _, rfl, (Option.some.inj e).symm⟩
  · cases e
theorem sc_max2 : SCn K (fun xs H Q => ∃ i j, xs = [.int i, .int j] ∧ Q (.int (if j > i then j else i)) H) fMax2 := by
  intro xs z S c us H Q hK k rs e q
  obtain ⟨i, j, rfl, rfl⟩ := fMax2_eq e
  exact ⟨i, j, two (P := True) rs rfl, q c H _ (Nxt.refl c H) k (.int _)⟩
theorem sc_min2 : SCn K (fun xs H Q => ∃ i j, xs = [.int i, .int j] ∧ Q (.int (if j < i then j else i)) H) fMin2 := by
  intro xs z S c us H Q hK k rs e q
  obtain ⟨i, j, rfl, rfl⟩ := fMin2_eq e
  exact ⟨i, j, two (P := True) rs rfl, q c H _ (Nxt.refl c H) k (.int _)⟩
def tupA (S : Store) : AV → Option AV
  | .tup p xs => some (.tup p xs)
  | x => (seqL S x).map (.tup true)
def fTuple (xs : List AV) (S : Store) : Option AV := match xs with
  | [x] => tupA S x
  | _ => none
theorem one_of {f : AV → Option AV} (e : (match xs with
  | [x] => f x
  | _ => none) = some z) (rs : Rels c H xs us) : ∃ x u, xs = [x] ∧ us = [u] ∧ Rel c H x u ∧ f x = some z := by
  split at e
  · cases rs with
    | cons r rs =>
      cases rs
      exact ⟨_, _, rfl, rfl, r, e⟩
  · cases e
/-- tuple(x): a new one is known whole -/
def rTupF (K : PySem.W.Frag) : List V → Hp → VK → Prop := fun xs H Q => ∃ p ys, xs = [.ref p] ∧ ((SqL K H p ys ∧ ∀ l o, H l = none → o.cls = .type "tuple" → o.dict = none → Q (.ref l) (upd H l (.frz o (.tup ys)))) ∨ (SqT K H p ys ∧ Q (.ref p) H))
theorem call_tupF {X : Cx} : CallR X (.type "tuple") (rTupF X.K) := by
  intro pins s σ H xs us Q I r h
  obtain ⟨p, ys, rfl, h⟩ := h
  obtain ⟨u, rfl, rx⟩ := vals1 r
  cases rx
  rcases h with ⟨hq, q⟩ | ⟨hq, q⟩
  · obtain ⟨its, rl, pl, hz⟩ := I.list hq
    refine call_tuple_list pl.isList (fun h' kp => ?_) (by have := rl.length; rw [List.size_toArray]; omega)
    have J : Inv X pins σ H { s with heap := h' } := I.kept (t' := s.toks) kp
    have J2 : Inv X pins σ (upd H h'.objs.size (.frz { cls := .type "tuple", data := .seq its.toArray } (.tup ys))) { s with heap := h'.push { cls := .type "tuple", data := .seq its.toArray } } :=
      J.laid (t' := s.toks) (fun b o e => Heap.get?_push_of_some _ e) (Nat.le_refl _) ⟨Heap.get?_push_size _ rfl, show ObjOk X.prog X.w _ _ _ (.tup ys) from ⟨hz, its, rl, IsTup.new _ _⟩⟩
    exact ⟨.ref h'.objs.size, _, J2, rfl, q _ _ (J.hok.fresh (Nat.le_refl _)) rfl rfl⟩
  · obtain ⟨its, rl, pl, hz⟩ := I.tuple hq
    exact call_tuple_same pl ⟨.ref p, H, I, rfl, q⟩
theorem sc_tuple : SCn K (rTupF K) fTuple := by
  intro xs z S c us H Q hK k rs e q
  obtain ⟨x, u, rfl, rfl, r, e⟩ := one_of (f := tupA S) e rs
  have lst : ∀ {x : AV}, Rel c H x u → (seqL S x).map (.tup true) = some z → rTupF K [u] H Q := fun {x} r e => by
    obtain ⟨ys, h1, h2⟩ := Option.map_eq_some_iff.mp e
    subst h2
    obtain ⟨a, vs, rfl, hs, rs⟩ := seqL_at k r h1
    exact ⟨a, vs, rfl, .inl ⟨sq_of hs, fun p o hp e1 e2 => q c _ _ (Nxt.new hp) (k.new hp) (new_tupF hp e1 e2 rs)⟩⟩
  cases x with
  | tup p ys =>
    cases e
    cases r with
    | tup h hp r1 => exact ⟨_, _, rfl, .inr ⟨by rw [← hK]; exact h, q c H _ (Nxt.refl c H) k (.tup h hp r1)⟩⟩
  | _ => exact lst r (by exact e)
def fList (xs : List AV) (S : Store) : Option AV := match xs with
  | [x] => (seqA S x).map .lst
  | _ => none
theorem sc_list : SCn K (fun xs H Q => ∃ p ys, xs = [.ref p] ∧ (SqL K H p ys ∨ SqT K H p ys) ∧ ∀ l, H l = none → Q (.ref l) (upd H l (.lst ys))) fList := by
  intro xs z S c us H Q hK k rs e q
  obtain ⟨x, u, rfl, rfl, r, e⟩ := one_of (f := fun x => (seqA S x).map .lst) e rs
  obtain ⟨ys, h1, h2⟩ := Option.map_eq_some_iff.mp e
  subst h2
  obtain ⟨a, vs, rfl, hs, rs⟩ := seqA_at hK k r h1
  exact ⟨a, vs, rfl, hs, fun p hp => q c _ _ (Nxt.new hp) (k.new hp) (new_lst k hp rs)⟩
def bls : List AV → Option (List Bool)
  | [] => some []
  | .bl b :: r => (bls r).map (b :: ·)
  | _ => none
theorem bls_at : ∀ {xs : List AV} {vs : List V} {bs : List Bool}, Rels c H xs vs → bls xs = some bs → vs = bs.map V.bl
  | _, _, _, .nil, e => by
    cases e
    rfl
  | x :: xs, v :: vs, bs, .cons r t, e => by
    cases x with
    | bl b =>
      obtain ⟨bs', h1, h2⟩ := Option.map_eq_some_iff.mp (show (bls xs).map (b :: ·) = some bs from e)
      subst h2
      cases r
      rw [bls_at t h1]
      rfl
    | _ => cases e
def fAll1 (x : AV) (S : Store) : Option AV := (seqL S x).bind fun ys => (bls ys).map fun bs => .bl (bs.all id)
def fAll (xs : List AV) (S : Store) : Option AV := match xs with
  | [x] => fAll1 x S
  | _ => none
def fAny1 (x : AV) (S : Store) : Option AV := (seqL S x).bind fun ys => (bls ys).map fun bs => .bl (bs.any id)
def fAny (xs : List AV) (S : Store) : Option AV := match xs with
  | [x] => fAny1 x S
  | _ => none
theorem sc_all : SCn K (rAll K) fAll := by
  intro xs z S c us H Q hK k rs e q
  obtain ⟨x, u, rfl, rfl, r, e⟩ := one_of (f := fun x => fAll1 x S) e rs
  obtain ⟨ys, h1, e⟩ := Option.bind_eq_some_iff.mp e
  obtain ⟨bs, h2, h3⟩ := Option.map_eq_some_iff.mp e
  subst h3
  obtain ⟨a, vs, rfl, hs, rs⟩ := seqL_at k r h1
  have := bls_at rs h2
  subst this
  exact ⟨a, bs, rfl, sq_of hs, q c H _ (Nxt.refl c H) k (.bl _)⟩
theorem sc_any : SCn K (rAny K) fAny := by
  intro xs z S c us H Q hK k rs e q
  obtain ⟨x, u, rfl, rfl, r, e⟩ := one_of (f := fun x => fAny1 x S) e rs
  obtain ⟨ys, h1, e⟩ := Option.bind_eq_some_iff.mp e
  obtain ⟨bs, h2, h3⟩ := Option.map_eq_some_iff.mp e
  subst h3
  obtain ⟨a, vs, rfl, hs, rs⟩ := seqL_at k r h1
  have := bls_at rs h2
  subst this
  exact ⟨a, bs, rfl, sq_of hs, q c H _ (Nxt.refl c H) k (.bl _)⟩
def intsOf : List AV → Option (List Int)
  | [] => some []
  | .int b :: r => (intsOf r).map (b :: ·)
  | _ => none
theorem intsOf_at : ∀ {xs : List AV} {vs : List V} {bs : List Int}, Rels c H xs vs → intsOf xs = some bs → vs = bs.map V.int
  | _, _, _, .nil, e => by
    cases e
    rfl
  | x :: xs, v :: vs, bs, .cons r t, e => by
    cases x with
    | int b =>
      obtain ⟨bs', h1, h2⟩ := Option.map_eq_some_iff.mp (show (intsOf xs).map (b :: ·) = some bs from e)
      subst h2
      cases r
      rw [intsOf_at t h1]
      rfl
    | _ => cases e
def fSum1 (x : AV) (S : Store) : Option AV := (seqL S x).bind fun ys => (intsOf ys).map fun bs => .int bs.sum
def fSum (xs : List AV) (S : Store) : Option AV := match xs with
  | [x] => fSum1 x S
  | _ => none
theorem sc_sum : SCn K (rSum K) fSum := by
  intro xs z S c us H Q hK k rs e q
  obtain ⟨x, u, rfl, rfl, r, e⟩ := one_of (f := fun x => fSum1 x S) e rs
  obtain ⟨ys, h1, e⟩ := Option.bind_eq_some_iff.mp e
  obtain ⟨bs, h2, h3⟩ := Option.map_eq_some_iff.mp e
  subst h3
  obtain ⟨a, vs, rfl, hs, rs⟩ := seqL_at k r h1
  have := intsOf_at rs h2
  subst this
  exact ⟨a, bs, rfl, sq_of hs, q c H _ (Nxt.refl c H) k (.int _)⟩
/-! ### fields -/
def fFld (f : Str) (ns : List Str) (x : AV) (S : Store) : Option AV := match fsOf S x with
  | some (n, fs) => if n ∈ ns then fs.lookup f else none
  | none => none
/-- the classes that have the attribute -/
def HasF (K : PySem.W.Frag) (f : Str) (ns : List Str) : Prop := ∀ n ∈ ns, Cls K (He.ga K n) ∧ NoAttr K (He.ga K n) f
def dFld (f : Str) (ns : List Str) (da : DE) : DE := fun ρ S => (da ρ S).bind fun x S1 => ofO (fFld f ns x S1) S1
theorem se_fld {f : Str} {ns : List Str} (hf : HasF K f ns) (ha : SE W K ta da) : SE W K (tFld K ta f) (dFld f ns da) := by
  intro ρ S c σ H Q hK k e h
  refine ha ρ S c σ H _ hK k e (Res.post_mono (Res.post_bind.mp h) (fun x S1 h1 => ?_) fun _ _ z => z)
  intro c1 H1 u n1 k1 r1
  obtain ⟨z, hz, g⟩ := ofO_post h1
  unfold fFld at hz
  cases q : fsOf S1 x with
  | none =>
    rw [q] at hz
    cases hz
  | some p =>
    obtain ⟨n, fs⟩ := p
    rw [q] at hz
    simp only at hz
    split at hz
    · rename_i hn
      obtain ⟨a, dx, gs, rfl, h2, rf⟩ := fsOf_at k1 r1 q
      obtain ⟨w, h3, h4⟩ := rf.look hz
      obtain ⟨h5, h6⟩ := hf n hn
      have hK1 := n1.K.trans hK
      rw [hK1] at h2
      exact ⟨a, _, dx, gs, w, rfl, h2, h5, h6, h3, g c1 H1 w n1 k1 h4⟩
    · cases hz
end
end Dl
set_option Elab.async false
set_option linter.all false
set_option maxRecDepth 100000
set_option maxHeartbeats 4000000
namespace Dl
open PySem PySem.Spec PyProof.Rows L2 Evl Cm
/-! ### statements -/
inductive Flow where
  | nx (ρ : Env) | rt (v : AV) | bk (ρ : Env) | ct (ρ : Env) | xc (ρ : Env) (e : AV)
inductive RS where
  | go (f : Flow) (S : Store) | bad
abbrev DS := Env → Store → RS
namespace RS
def post (r : RS) (N : Env → Store → Prop) (R : AV → Store → Prop) (B C : Env → Store → Prop) (X : Env → AV → Store → Prop) : Prop := match r with
  | .go (.nx ρ) S => N ρ S
  | .go (.rt v) S => R v S
  | .go (.bk ρ) S => B ρ S
  | .go (.ct ρ) S => C ρ S
  | .go (.xc ρ e) S => X ρ e S
  | .bad => False
theorem post_mono {r : RS} {N N' : Env → Store → Prop} {R R' : AV → Store → Prop} {B B' C C' : Env → Store → Prop} {X X' : Env → AV → Store → Prop} (h : r.post N R B C X)
    (hN : ∀ ρ S, N ρ S → N' ρ S) (hR : ∀ v S, R v S → R' v S) (hB : ∀ ρ S, B ρ S → B' ρ S) (hC : ∀ ρ S, C ρ S → C' ρ S) (hX : ∀ ρ e S, X ρ e S → X' ρ e S) : r.post N' R' B' C' X' := by
  cases r with
  | bad => exact h
  | go f S => cases f with
    | nx ρ => exact hN _ _ h
    | rt v => exact hR _ _ h
    | bk ρ => exact hB _ _ h
    | ct ρ => exact hC _ _ h
    | xc ρ e => exact hX _ _ _ h
end RS
/-- an expression's answer, then a statement's -/
def Res.go {α : Type} (r : Res α) (ρ : Env) (k : α → Store → RS) : RS := match r with
  | .ok a S => k a S
  | .exc e S => .go (.xc ρ e) S
  | .bad => .bad
@[simp] theorem Res.go_ok {α : Type} (a : α) (S : Store) (ρ : Env) (k : α → Store → RS) : (Res.ok a S).go ρ k = k a S := rfl
@[simp] theorem Res.go_exc {α : Type} (e : AV) (S : Store) (ρ : Env) (k : α → Store → RS) : (Res.exc e S : Res α).go ρ k = .go (.xc ρ e) S := rfl
@[simp] theorem Res.go_bad {α : Type} (ρ : Env) (k : α → Store → RS) : (Res.bad : Res α).go ρ k = .bad := rfl
def GoodN (c : Co) (H : Hp) (N : L2.St → Hp → Prop) : Env → Store → Prop := fun ρ S => ∀ c' H' σ, Nxt c H c' H' → Cor c' S H' → EnvR c' H' ρ σ → N σ H'
def FallS (c : Co) (H : Hp) (W : WX) : Env → AV → Store → Prop := fun ρ e S => ∀ c' H' σ cls d, Nxt c H c' H' → Cor c' S H' → EnvR c' H' ρ σ → RelE c' H' e cls d → W cls d σ H'
section
variable {c c' : Co} {H H' : Hp} {N : L2.St → Hp → Prop} {W : WX} {ρ : Env} {S : Store} {e : AV} {σ : L2.St}
theorem GoodN.nxt (g : GoodN c H N ρ S) (n : Nxt c H c' H') : GoodN c' H' N ρ S := fun c2 H2 σ m k e => g c2 H2 σ (n.trans m) k e
theorem FallS.nxt (g : FallS c H W ρ e S) (n : Nxt c H c' H') : FallS c' H' W ρ e S := fun c2 H2 σ cls d m k e => g c2 H2 σ cls d (n.trans m) k e
theorem FallS.fall (g : FallS c H W ρ e S) (r : EnvR c H ρ σ) : Fall c H (WE W σ) e S := fun c2 H2 cls d m k x => g c2 H2 σ cls d m k (r.nxt m) x
end
def SP (c : Co) (H : Hp) (W : WX) (D : Ends) (r : RS) : Prop := r.post (GoodN c H D.nx) (Good c H D.rt) (GoodN c H D.bk) (GoodN c H D.ct) (FallS c H W)
theorem SP.nxt {c c' : Co} {H H' : Hp} {W : WX} {D : Ends} {r : RS} (h : SP c H W D r) (n : Nxt c H c' H') : SP c' H' W D r :=
  RS.post_mono h (fun _ _ g => g.nxt n) (fun _ _ g => g.nxt n) (fun _ _ g => g.nxt n) (fun _ _ g => g.nxt n) fun _ _ _ g => g.nxt n
/-- a statement's reading that ends as d says -/
def SS (W : WX) (K : PySem.W.Frag) (t : TS) (d : DS) : Prop := ∀ (ρ : Env) (S : Store) (c : Co) (σ : L2.St) (H : Hp) (D : Ends), c.K = K → Cor c S H → EnvR c H ρ σ → SP c H W D (d ρ S) → t D σ H
section
variable {W : WX} {K : PySem.W.Frag} {te tv ta : TE} {de dv da : DE} {tA : TA} {dA : DA} {tT : TT} {dT : DT} {t u tb : TS} {d d' db : DS}
theorem go_post {α : Type} {r : Res α} {ρ : Env} {k : α → Store → RS} {c : Co} {H : Hp} {D : Ends} {σ : L2.St} (e : EnvR c H ρ σ) (h : SP c H W D (r.go ρ k)) : r.post (fun a S => SP c H W D (k a S)) (Fall c H (WE W σ)) := by
  cases r with
  | ok a S => exact h
  | exc x S => exact (show FallS c H W ρ x S from h).fall e
  | bad => exact h
def dNext : DS := fun ρ S => .go (.nx ρ) S
theorem ss_next : SS W K tNext dNext := fun ρ S c σ H D _ k e h => (show GoodN c H D.nx ρ S from h) c H σ (Nxt.refl c H) k e
def dBreak : DS := fun ρ S => .go (.bk ρ) S
def dCont : DS := fun ρ S => .go (.ct ρ) S
theorem ss_break : SS W K tBreak dBreak := fun ρ S c σ H D _ k e h => (show GoodN c H D.bk ρ S from h) c H σ (Nxt.refl c H) k e
theorem ss_cont : SS W K tCont dCont := fun ρ S c σ H D _ k e h => (show GoodN c H D.ct ρ S from h) c H σ (Nxt.refl c H) k e
def dSeq (d d' : DS) : DS := fun ρ S => match d ρ S with
  | .go (.nx ρ1) S1 => d' ρ1 S1
  | r => r
theorem ss_seq (h1 : SS W K t d) (h2 : SS W K u d') : SS W K (tSeq t u) (dSeq d d') := by
  intro ρ S c σ H D hK k e h
  refine h1 ρ S c σ H _ hK k e ?_
  unfold dSeq at h
  cases q : d ρ S with
  | bad =>
    rw [q] at h
    exact h
  | go f S1 =>
    rw [q] at h
    cases f with
    | nx ρ1 => exact fun c1 H1 σ1 n1 k1 e1 => h2 ρ1 S1 c1 σ1 H1 D (n1.K.trans hK) k1 e1 (SP.nxt h n1)
    | rt v => exact h
    | bk ρ1 => exact h
    | ct ρ1 => exact h
    | xc ρ1 x => exact h
def dDrop (de : DE) : DS := fun ρ S => (de ρ S).go ρ fun _ S1 => .go (.nx ρ) S1
theorem ss_drop (he : SE W K te de) : SS W K (tDrop te) (dDrop de) := by
  intro ρ S c σ H D hK k e h
  exact he ρ S c σ H _ hK k e (Res.post_mono (go_post e h) (fun x S1 h1 c1 H1 v n1 k1 r1 => (show GoodN c H D.nx ρ S1 from h1) c1 H1 σ n1 k1 (e.nxt n1)) fun _ _ z => z)
def dRet (de : DE) : DS := fun ρ S => (de ρ S).go ρ fun v S1 => .go (.rt v) S1
theorem ss_ret (he : SE W K te de) : SS W K (tRet te) (dRet de) := by
  intro ρ S c σ H D hK k e h
  exact he ρ S c σ H _ hK k e (Res.post_mono (go_post e h) (fun x S1 h1 => h1) fun _ _ z => z)
def dRetN : DS := fun _ S => .go (.rt .non) S
theorem ss_retN : SS W K tRetN dRetN := fun ρ S c σ H D _ k e h => (show Good c H D.rt .non S from h) c H _ (Nxt.refl c H) k .non
def dIfS (dT : DT) (d d' : DS) : DS := fun ρ S => (dT ρ S).go ρ fun b S1 => if b = true then d ρ S1 else d' ρ S1
theorem ss_if (ht : ST W K tT dT) (h1 : SS W K t d) (h2 : SS W K u d') : SS W K (tIfS tT t u) (dIfS dT d d') := by
  intro ρ S c σ H D hK k e h
  refine ht ρ S c σ H _ hK k e (Res.post_mono (go_post e h) (fun b S1 q c1 H1 n1 k1 => ?_) fun _ _ z => z)
  cases b with
  | true => exact h1 ρ S1 c1 σ H1 D (n1.K.trans hK) k1 (e.nxt n1) (SP.nxt q n1)
  | false => exact h2 ρ S1 c1 σ H1 D (n1.K.trans hK) k1 (e.nxt n1) (SP.nxt q n1)
/-! ### targets -/
/-- names and tuples of names: what they make of the slots -/
abbrev DG := AV → Env → Option Env
abbrev DGs := List AV → Env → Option Env
def SG (K : PySem.W.Frag) (t : TG) (d : DG) : Prop := ∀ (x : AV) (v : V) (ρ ρ' : Env) (S : Store) (c : Co) (σ : L2.St) (H : Hp) (Q : L2.St → Hp → Prop), c.K = K → Cor c S H → EnvR c H ρ σ → Rel c H x v →
  d x ρ = some ρ' → GoodN c H Q ρ' S → t v σ H Q
def SGs (K : PySem.W.Frag) (t : TGs) (d : DGs) : Prop := ∀ (xs : List AV) (vs : List V) (ρ ρ' : Env) (S : Store) (c : Co) (σ : L2.St) (H : Hp) (Q : L2.St → Hp → Prop), c.K = K → Cor c S H → EnvR c H ρ σ → Rels c H xs vs →
  d xs ρ = some ρ' → GoodN c H Q ρ' S → t vs σ H Q
def dgName (i : Nat) : DG := fun x ρ => some (ρ.set i (some x))
theorem sg_name {i : Nat} : SG K (gName i) (dgName i) := fun x v ρ ρ' S c σ H Q hK k e r h g => by
  cases h
  exact g c H _ (Nxt.refl c H) k (e.set r)
def dgNil : DGs := fun xs ρ => match xs with
  | [] => some ρ
  | _ => none
def dgCons (dg : DG) (dr : DGs) : DGs := fun xs ρ => match xs with
  | x :: r => (dg x ρ).bind (dr r)
  | [] => none
theorem sgs_nil : SGs K gNil dgNil := by
  intro xs vs ρ ρ' S c σ H Q hK k e r h g
  cases r with
  | nil =>
    cases h
    exact ⟨rfl, g c H σ (Nxt.refl c H) k e⟩
  | cons _ _ => cases h
theorem sgs_cons {tg : TG} {dg : DG} {tr : TGs} {dr : DGs} (hg : SG K tg dg) (hr : SGs K tr dr) : SGs K (gCons tg tr) (dgCons dg dr) := by
  intro xs vs ρ ρ' S c σ H Q hK k e r h g
  cases r with
  | nil => cases h
  | @cons x v xs vs r rs =>
    obtain ⟨ρ1, h1, h2⟩ := Option.bind_eq_some_iff.mp (show (dg x ρ).bind (dr xs) = some ρ' from h)
    exact ⟨v, vs, rfl, hg x v ρ ρ1 S c σ H _ hK k e r h1 fun c1 H1 σ1 n1 k1 e1 => hr xs vs ρ1 ρ' S c1 σ1 H1 Q (n1.K.trans hK) k1 e1 (rs.nxt n1) h2 (g.nxt n1)⟩
def dgTup (n : Nat) (dr : DGs) : DG := fun x ρ => match x with
  | .tup _ xs => if xs.length = n then dr xs ρ else none
  | _ => none
theorem sg_tup {n : Nat} {tr : TGs} {dr : DGs} (hr : SGs K tr dr) : SG K (gTup K n tr) (dgTup n dr) := by
  intro x v ρ ρ' S c σ H Q hK k e r h g
  cases x with
  | tup p xs =>
    have h : (if xs.length = n then dr xs ρ else none) = some ρ' := h
    split at h
    · rename_i hn
      cases r with
      | tup hs _ rs =>
        subst hK
        exact ⟨_, _, rfl, hs, by rw [← rs.len]; exact hn, hr xs _ ρ ρ' S c σ H Q rfl k e rs h g⟩
    · cases h
  | _ => cases h
/-- target = e -/
def dAsg (de : DE) (dg : DG) : DS := fun ρ S => (de ρ S).go ρ fun x S1 => match dg x ρ with
  | some ρ1 => .go (.nx ρ1) S1
  | none => .bad
theorem ss_asg {g : TG} {dg : DG} (he : SE W K te de) (hg : SG K g dg) : SS W K (tAsg te g) (dAsg de dg) := by
  intro ρ S c σ H D hK k e h
  refine he ρ S c σ H _ hK k e (Res.post_mono (go_post e h) (fun x S1 h1 => ?_) fun _ _ z => z)
  intro c1 H1 v n1 k1 r1
  cases q : dg x ρ with
  | none =>
    rw [q] at h1
    exact False.elim h1
  | some ρ1 =>
    rw [q] at h1
    exact hg x v ρ ρ1 S1 c1 σ H1 _ (n1.K.trans hK) k1 (e.nxt n1) r1 q (GoodN.nxt (show GoodN c H D.nx ρ1 S1 from h1) n1)
/-! ### what is walked -/
/-- the items, and what must stay true of the store meanwhile -/
structure Wk where
  xs : List AV
  gd : Store → Bool
abbrev DI := Env → Store → Res Wk
def ItOk (c1 : Co) (H1 : Hp) (its : Wk) (J : It) : Prop := ∃ (G : Hp → Prop) (Y : Nat → Hp → V → Hp → Prop), Walk J its.xs.length G Y ∧ (∀ c S H, Nxw c1 H1 c H → Cor c S H → its.gd S → G H) ∧
  (∀ i x H H' c S, i < its.xs.length → Nxw c1 H1 c H → Cor c S H → its.gd S → Y i H x H' → ∃ y, its.xs[i]? = some y ∧ Nxt c H c H' ∧ Cor c S H' ∧ Rel c H' y x)
def SI (W : WX) (K : PySem.W.Frag) (t : TI) (d : DI) : Prop := ∀ (ρ : Env) (S : Store) (c : Co) (σ : L2.St) (H : Hp) (R : It → Hp → Prop), c.K = K → Cor c S H → EnvR c H ρ σ →
  (d ρ S).post (fun its S' => ∀ c1 H1 J, Nxt c H c1 H1 → Cor c1 S' H1 → ItOk c1 H1 its J → R J H1) (Fall c H (WE W σ)) → t σ H R
def forL (gd : Store → Bool) (g : DG) (body : DS) : List AV → Env → Store → RS
  | [], ρ, S => if gd S then .go (.nx ρ) S else .bad
  | x :: r, ρ, S => if gd S then (match g x ρ with
    | some ρ1 => (match body ρ1 S with
      | .go (.nx ρ2) S2 => forL gd g body r ρ2 S2
      | .go (.ct ρ2) S2 => forL gd g body r ρ2 S2
      | .go (.bk ρ2) S2 => .go (.nx ρ2) S2
      | q => q)
    | none => .bad) else .bad
def dFor (di : DI) (g : DG) (body : DS) : DS := fun ρ S => (di ρ S).go ρ fun its S1 => forL its.gd g body its.xs ρ S1
theorem ss_for {wi : TI} {di : DI} {g : TG} {dg : DG} (hi : SI W K wi di) (hg : SG K g dg) (hb : SS W K tb db) : SS W K (tFor wi g tb) (dFor di dg db) := by
  intro ρ S c σ H D hK k e h
  refine hi ρ S c σ H _ hK k e (Res.post_mono (go_post e h) (fun its S1 h1 => ?_) fun _ _ z => z)
  intro c1 H1 J n1 k1 ⟨G, Y, w, hG, hY⟩
  have e1 := e.nxt n1
  have h1 : SP c1 H1 W D (forL its.gd dg db its.xs ρ S1) := SP.nxt h1 n1
  have gd0 : ∀ {r : List AV} {ρ : Env} {S : Store} {c : Co} {H : Hp}, SP c H W D (forL its.gd dg db r ρ S) → its.gd S := fun {r ρ S c H} h => by
    cases r with
    | nil =>
      unfold forL at h
      split at h
      · assumption
      · exact False.elim h
    | cons x r =>
      unfold forL at h
      split at h
      · assumption
      · exact False.elim h
  refine for_it w (fun i σ' H' => ∃ c' ρ' S', Nxt c1 H1 c' H' ∧ Cor c' S' H' ∧ EnvR c' H' ρ' σ' ∧ SP c' H' W D (forL its.gd dg db (its.xs.drop i) ρ' S')) ⟨c1, ρ, S1, Nxt.refl c1 H1, k1, e1, h1⟩ ?_ ?_ ?_
  · rintro i σ' H' hi ⟨c', ρ', S', n, k', e', p⟩
    exact hG c' S' H' n.w k' (gd0 p)
  · rintro i x σ' H' H2 hi ⟨c', ρ', S', n, k', e', p⟩ y
    have gS := gd0 p
    obtain ⟨z, hz, n2, k2, r2⟩ := hY i x H' H2 c' S' hi n.w k' gS y
    have hd : its.xs.drop i = z :: its.xs.drop (i + 1) := by
      obtain ⟨hl, hz'⟩ := List.getElem?_eq_some_iff.mp hz
      rw [List.drop_eq_getElem_cons hl, hz']
    rw [hd] at p
    unfold forL at p
    rw [if_pos gS] at p
    cases q : dg z ρ' with
    | none =>
      rw [q] at p
      exact False.elim p
    | some ρ1 =>
      rw [q] at p
      simp only at p
      refine hg z x ρ' ρ1 S' c' σ' H2 _ (n.K.trans (n1.K.trans hK)) k2 (e'.nxt n2) r2 q fun c3 H3 σ3 n3 k3 e3 => ?_
      have p := SP.nxt (SP.nxt p n2) n3
      have nn := (n.trans n2).trans n3
      refine hb ρ1 S' c3 σ3 H3 _ (nn.K.trans (n1.K.trans hK)) k3 e3 ?_
      cases q2 : db ρ1 S' with
      | bad =>
        rw [q2] at p
        exact False.elim p
      | go f S2 =>
        rw [q2] at p
        cases f with
        | nx ρ2 => exact fun c4 H4 σ4 n4 k4 e4 => ⟨c4, ρ2, S2, nn.trans n4, k4, e4, SP.nxt p n4⟩
        | ct ρ2 => exact fun c4 H4 σ4 n4 k4 e4 => ⟨c4, ρ2, S2, nn.trans n4, k4, e4, SP.nxt p n4⟩
        | bk ρ2 => exact p
        | rt v => exact p
        | xc ρ2 x => exact p
  · rintro σ' H' ⟨c', ρ', S', n, k', e', p⟩
    rw [List.drop_length] at p
    unfold forL at p
    rw [if_pos (gd0 (r := []) (by unfold forL; exact p))] at p
    exact (show GoodN c' H' D.nx ρ' S' from p) c' H' σ' (Nxt.refl c' H') k' e'
end
end Dl
set_option Elab.async false
set_option linter.all false
set_option maxRecDepth 100000
set_option maxHeartbeats 4000000
namespace Dl
open PySem PySem.Spec PyProof.Rows L2 Evl Cm
section
variable {W : WX} {K : PySem.W.Frag} {c c' : Co} {S : Store} {H H' : Hp} {x y z : AV} {u v : V} {xs ys : List AV} {us vs : List V} {te ta : TE} {da de : DE} {tA : TA} {dA : DA}
/-! ### the store is written -/
/-- what a thing of the store may be in the heap -/
def isMut : HO → Prop
  | .lst _ => True
  | .dK _ => True
  | .ins _ _ _ => True
  | .ext _ => True
  | _ => False
theorem Cor.there (k : Cor c S H) {i : Nat} {a : Addr} (h : c.tr[i]? = some a) : ∃ o, S[i]? = some o ∧ RelO c H a o := by
  have hl : i < S.length := by
    rw [k.len]
    exact (List.getElem?_eq_some_iff.mp h).1
  exact ⟨S[i], List.getElem?_eq_getElem hl, k.at_ i _ a (List.getElem?_eq_getElem hl) h⟩
theorem Cor.nxtSet (k : Cor c S H) {i : Nat} {a : Addr} (h : c.tr[i]? = some a) (hmu : ∃ ho, H a = some ho ∧ isMut ho) {o : HO} : Nxt c H c (upd H a o) := by
  have hm : a ∈ c.tr := List.mem_of_getElem? h
  obtain ⟨ho, he, mu⟩ := hmu
  have nt : ∀ b xs, H b = some (.tup xs) → b ≠ a := fun b xs e z => by
    rw [z, he] at e
    cases e
    exact mu
  have nf : ∀ b o u, H b = some (.frz o u) → b ≠ a := fun b o u e z => by
    rw [z, he] at e
    cases e
    exact mu
  refine ⟨rfl, rfl, ⟨fun _ h => h, fun _ h => .inl h⟩, ⟨[], by simp, fun _ h => absurd h List.not_mem_nil⟩, fun b u ho e => ?_, fun b u hb e => ?_, fun b xs e => ?_, fun b u w e => ?_, fun b e => ?_⟩
  · rw [upd_ne fun z => ho.1 (by rw [z]; exact hm)]
    exact e
  · rw [upd_ne fun z => k.apart a hm (by rw [← z]; exact hb)]
    exact e
  · rw [upd_ne (nt b xs e)]
    exact e
  · rw [upd_ne (nf b u w e)]
    exact e
  · by_cases z : b = a
    · rw [z, upd_same]
      simp
    · rw [upd_ne z]
      exact e
theorem Cor.set (k : Cor c S H) {i : Nat} {a : Addr} (h : c.tr[i]? = some a) (hm : ∃ ho, H a = some ho ∧ isMut ho) {ho : HO} {o : AO} (r : RelO c (upd H a ho) a o) : Cor c (S.set i o) (upd H a ho) := by
  have n := k.nxtSet h hm (o := ho)
  refine ⟨by rw [List.length_set]; exact k.len, k.nd, k.apart, fun b hb => n.live b (k.hl b hb), fun j q b e1 e2 => ?_⟩
  by_cases z : j = i
  · subst z
    rw [h] at e2
    cases e2
    have hl : j < S.length := by
      rw [k.len]
      exact (List.getElem?_eq_some_iff.mp h).1
    rw [List.getElem?_set_self hl] at e1
    cases e1
    exact r
  · rw [List.getElem?_set_ne (Ne.symm z)] at e1
    have nb : b ≠ a := fun w => z ((List.getElem?_inj (List.getElem?_eq_some_iff.mp e2).1 k.nd).mp (by rw [e2, h, w]))
    exact (k.at_ j q b e1 e2).nxt n (upd_ne nb)
/-- a list of the store is changed -/
theorem Cor.setL {us : List V} (k : Cor c S H) {i : Nat} {a : Addr} (h : c.tr[i]? = some a) (hv : H a = some (.lst us)) (r : Rels c H xs vs) : Cor c (S.set i (.lst xs)) (upd H a (.lst vs)) :=
  k.set h ⟨_, hv, trivial⟩ ⟨vs, upd_same, r.nxt (k.nxtSet h ⟨_, hv, trivial⟩)⟩
theorem Cor.setD {ks : List (AV × AV)} {kws : List (Key × V)} (k : Cor c S H) {us : List (Key × V)} {i : Nat} {a : Addr} (h : c.tr[i]? = some a) (hv : H a = some (.dK us)) (r : Relk c H ks kws) : Cor c (S.set i (.dic ks)) (upd H a (.dK kws)) :=
  k.set h ⟨_, hv, trivial⟩ ⟨kws, upd_same, r.nxt (k.nxtSet h ⟨_, hv, trivial⟩)⟩
theorem Cor.setO {n : Str} {dx : Addr} {fs : List (Str × AV)} {gs : List (Str × V)} (k : Cor c S H) {C d0 : Addr} {us : List (Str × V)} {i : Nat} {a : Addr} (h : c.tr[i]? = some a) (hv : H a = some (.ins C d0 us)) (r : Relf c H fs gs) : Cor c (S.set i (.obj n fs)) (upd H a (.ins (He.ga c.K n) dx gs)) :=
  k.set h ⟨_, hv, trivial⟩ ⟨dx, gs, upd_same, r.nxt (k.nxtSet h ⟨_, hv, trivial⟩)⟩
/-- something new of the store -/
def Co.add (c : Co) (p : Addr) : Co := { c with tr := c.tr ++ [p] }
theorem Nxt.add (k : Cor c S H) {p : Addr} {o : HO} (hp : H p = none) : Nxt c H (c.add p) (upd H p o) := by
  have n := Nxt.new (c := c) (o := o) hp
  exact ⟨rfl, rfl, ⟨fun _ h => h, fun _ h => .inl h⟩, ⟨[p], rfl, fun a h => by
    rw [List.mem_singleton.mp h]
    exact hp⟩, n.keep, n.hkeep, n.tup, n.frz, n.live⟩
theorem Cor.add (k : Cor c S H) {p : Addr} {ho : HO} {o : AO} (hp : H p = none) (r : RelO (c.add p) (upd H p ho) p o) : Cor (c.add p) (S ++ [o]) (upd H p ho) := by
  have n := Nxt.add k (o := ho) hp
  have hn := k.out hp
  refine ⟨by simp [Co.add, k.len], ?_, fun a ha => ?_, fun b hb => n.live b (k.hl b hb), fun j q b e1 e2 => ?_⟩
  · show (c.tr ++ [p]).Nodup
    rw [List.nodup_append]
    refine ⟨k.nd, by simp, fun a ha b hb z => hn.1 ?_⟩
    rw [← List.mem_singleton.mp hb, ← z]
    exact ha
  · rcases List.mem_append.mp ha with h | h
    · exact k.apart a h
    · rw [List.mem_singleton.mp h]
      exact hn.2
  · by_cases z : j < S.length
    · rw [List.getElem?_append_left z] at e1
      have e2' : c.tr[j]? = some b := by
        have : (c.tr ++ [p])[j]? = some b := e2
        rw [List.getElem?_append_left (by rw [← k.len]; exact z)] at this
        exact this
      have r' := k.at_ j q b e1 e2'
      exact r'.nxt n (upd_ne fun w => r'.isThere (by rw [w]; exact hp))
    · have hj : j = S.length := by
        have h1 := (List.getElem?_eq_some_iff.mp e1).1
        rw [List.length_append, List.length_singleton] at h1
        omega
      subst hj
      rw [List.getElem?_append_right (Nat.le_refl _), Nat.sub_self] at e1
      cases e1
      have e2' : (c.tr ++ [p])[S.length]? = some b := e2
      rw [k.len, List.getElem?_append_right (Nat.le_refl _), Nat.sub_self] at e2'
      cases e2'
      exact r
theorem Co.add_at (k : Cor c S H) {p : Addr} : (c.add p).tr[S.length]? = some p := by
  show (c.tr ++ [p])[S.length]? = some p
  rw [k.len, List.getElem?_append_right (Nat.le_refl _), Nat.sub_self]
  rfl
/-! ### new lists -/
abbrev DL := Env → Store → Res (List AV)
/-- a reading that makes a new list -/
def SEL (W : WX) (K : PySem.W.Frag) (t : TE) (d : DL) : Prop := ∀ (ρ : Env) (S : Store) (c : Co) (σ : L2.St) (H : Hp) (Q : VK), c.K = K → Cor c S H → EnvR c H ρ σ →
  (d ρ S).post (fun xs S' => ∀ c' H0 vs p, Nxt c H c' H0 → Cor c' S' H0 → H0 p = none → Rels c' H0 xs vs → Q (.ref p) (upd H0 p (.lst vs))) (Fall c H (WE W σ)) → t σ H Q
/-- it never changes -/
def dFz (d : DL) : DE := fun ρ S => (d ρ S).bind fun xs S1 => .ok (.lst xs) S1
/-- it becomes a thing of the store -/
def dTh (d : DL) : DE := fun ρ S => (d ρ S).bind fun xs S1 => .ok (.ref S1.length) (S1 ++ [.lst xs])
theorem se_fz {d : DL} (h : SEL W K te d) : SE W K te (dFz d) := by
  intro ρ S c σ H Q hK k e q
  refine h ρ S c σ H Q hK k e (Res.post_mono (Res.post_bind.mp q) (fun xs S1 g => ?_) fun _ _ z => z)
  intro c1 H1 vs p n1 k1 hp r
  exact g c1 _ _ (n1.trans (Nxt.new hp)) (k1.new hp) (new_lst k1 hp r)
theorem se_th {d : DL} (h : SEL W K te d) : SE W K te (dTh d) := by
  intro ρ S c σ H Q hK k e q
  refine h ρ S c σ H Q hK k e (Res.post_mono (Res.post_bind.mp q) (fun xs S1 g => ?_) fun _ _ z => z)
  intro c1 H1 vs p n1 k1 hp r
  have n2 := Nxt.add k1 (o := .lst vs) hp
  exact g (c1.add p) _ _ (n1.trans n2) (k1.add hp ⟨vs, upd_same, r.nxt n2⟩) (.ref (Co.add_at k1))
def dlLst (dA : DA) : DL := fun ρ S => (dA ρ S).bind fun xs S1 => if xs.length ≤ lim then .ok xs S1 else .bad
theorem sl_lst (ha : SA W K tA dA) : SEL W K (tLst tA) (dlLst dA) := by
  intro ρ S c σ H Q hK k e h
  refine ha ρ S c σ H _ hK k e (Res.post_mono (Res.post_bind.mp h) (fun xs S1 h1 => ?_) fun _ _ z => z)
  intro c1 H1 vs n1 k1 r1
  split at h1
  · rename_i hl
    exact ⟨by rw [← r1.len]; exact lim_line hl, fun p hp => h1 c1 H1 vs p n1 k1 hp r1⟩
  · exact False.elim h1
def flList (xs : List AV) (S : Store) : Option (List AV) := match xs with
  | [x] => seqA S x
  | _ => none
def dlCB (f : List AV → Store → Option (List AV)) (dA : DA) : DL := fun ρ S => (dA ρ S).bind fun xs S1 => ofO (f xs S1) S1
theorem sl_list (ha : SA W K tA dA) : SEL W K (tCB (fun xs H Q => ∃ p ys, xs = [.ref p] ∧ (SqL K H p ys ∨ SqT K H p ys) ∧ ∀ l, H l = none → Q (.ref l) (upd H l (.lst ys))) tA) (dlCB flList dA) := by
  intro ρ S c σ H Q hK k e h
  refine ha ρ S c σ H _ hK k e (Res.post_mono (Res.post_bind.mp h) (fun xs S1 h1 => ?_) fun _ _ z => z)
  intro c1 H1 us n1 k1 rs
  obtain ⟨ys, e1, g⟩ := ofO_post h1
  unfold flList at e1
  split at e1
  · cases rs with
    | cons r rs =>
      cases rs
      obtain ⟨a, vs, rfl, hs, rs⟩ := seqA_at (n1.K.trans hK) k1 r e1
      exact ⟨a, vs, rfl, hs, fun p hp => g c1 H1 vs p n1 k1 hp rs⟩
  · cases e1
/-! ### hidden lists -/
def Co.hide (c : Co) (D : Addr) : Co := { c with hid := fun a => a = D ∨ c.hid a }
def Co.unhide (c : Co) (D : Addr) : Co := { c with hid := fun a => a ≠ D ∧ c.hid a }
theorem Co.hide_out {D a : Addr} : (c.hide D).Out a ↔ c.Out a ∧ a ≠ D := by
  constructor
  · rintro ⟨h1, h2⟩
    exact ⟨⟨h1, fun z => h2 (.inr z)⟩, fun z => h2 (.inl z)⟩
  · rintro ⟨⟨h1, h2⟩, h3⟩
    exact ⟨h1, fun z => z.elim h3 h2⟩
section
variable {D : Addr} {o : HO}
/-- what changes the hidden list alone -/
structure Fits (D : Addr) (H H' : Hp) : Prop where
  eq : ∀ a, a ≠ D → H' a = H a
  nt : ∀ xs, H D ≠ some (.tup xs)
  nf : ∀ o u, H D ≠ some (.frz o (.tup u))
theorem Fits.sqT (f : Fits D H H') {a : Addr} {vs : List V} (h : SqT K H a vs) : SqT K H' a vs := by
  have ne : ∀ xs, H a = some (.tup xs) → a ≠ D := fun xs e z => f.nt xs (by rw [← z]; exact e)
  have ne2 : ∀ o u, H a = some (.frz o (.tup u)) → a ≠ D := fun o u e z => f.nf o u (by rw [← z]; exact e)
  rcases h with (h | ⟨o, h⟩) | h
  · exact .inl (.inl (by rw [f.eq a (ne _ h)]; exact h))
  · exact .inl (.inr ⟨o, by rw [f.eq a (ne2 _ _ h)]; exact h⟩)
  · exact .inr h
theorem Fits.pln (f : Fits D H H') {a : Addr} (h : Pln K H a) : Pln K H' a := by
  rcases h with ⟨o, u, h, h1, h2⟩ | h
  · exact .inl ⟨o, u, by rw [f.eq a fun z => f.nf o _ (by rw [← z]; exact h)]; exact h, h1, h2⟩
  · exact .inr h
/-- of the same tracks, where D is hidden ahead or behind -/
structure Same2 (c c' : Co) (D : Addr) (H H' : Hp) : Prop where
  K : c'.K = c.K
  ex : c'.ex = c.ex
  tr : c'.tr = c.tr
  out : ∀ a, H a ≠ none → c.Out a → a ≠ D ∧ c'.Out a
  fit : Fits D H H'
mutual
theorem Rel.hid (f : Same2 c c' D H H') : ∀ {x : AV} {v : V}, Rel c H x v → Rel c' H' x v
  | _, _, .non => .non
  | _, _, .bl b => .bl b
  | _, _, .int i => .int i
  | _, _, .opq a => .opq a
  | _, _, .str h => .str h
  | _, _, .tup h hp r => .tup (by rw [f.K]; exact f.fit.sqT h) (fun z => by rw [f.K]; exact f.fit.pln (hp z)) (Rels.hid f r)
  | _, _, .lst h ha r => .lst (by rw [f.fit.eq _ (f.out _ (by rw [h]; simp) ha).1]; exact h) (f.out _ (by rw [h]; simp) ha).2 (Rels.hid f r)
  | _, _, .dic h ha r => .dic (by rw [f.fit.eq _ (f.out _ (by rw [h]; simp) ha).1]; exact h) (f.out _ (by rw [h]; simp) ha).2 (Relk.hid f r)
  | _, _, .obj h ha r => .obj (by rw [f.fit.eq _ (f.out _ (by rw [h]; simp) ha).1, f.K]; exact h) (f.out _ (by rw [h]; simp) ha).2 (Relf.hid f r)
  | _, _, .exc h r => .exc (by rw [f.ex, f.K]; exact h) (Relx.hid f r)
  | _, _, .ref h => .ref (by rw [f.tr]; exact h)
theorem Rels.hid (f : Same2 c c' D H H') : ∀ {xs : List AV} {vs : List V}, Rels c H xs vs → Rels c' H' xs vs
  | _, _, .nil => .nil
  | _, _, .cons r rs => .cons (Rel.hid f r) (Rels.hid f rs)
theorem Relk.hid (f : Same2 c c' D H H') : ∀ {xs : List (AV × AV)} {vs : List (Key × V)}, Relk c H xs vs → Relk c' H' xs vs
  | _, _, .nil => .nil
  | _, _, .cons k r rs => .cons (Rel.hid f k) (Rel.hid f r) (Relk.hid f rs)
theorem Relf.hid (f : Same2 c c' D H H') : ∀ {xs : List (Str × AV)} {vs : List (Str × V)}, Relf c H xs vs → Relf c' H' xs vs
  | _, _, .nil => .nil
  | _, _, .cons r rs => .cons (Rel.hid f r) (Relf.hid f rs)
theorem Relx.hid (f : Same2 c c' D H H') : ∀ {fs : List (Str × AV)} {d : Option Addr}, Relx c H fs d → Relx c' H' fs d
  | _, _, .nil => .nil
  | _, _, .some h ha r => .some (by rw [f.fit.eq _ (f.out _ (by rw [h]; simp) ha).1]; exact h) (f.out _ (by rw [h]; simp) ha).2 (Relf.hid f r)
end
theorem EnvR.hid {ρ : Env} {σ : L2.St} (f : Same2 c c' D H H') (e : EnvR c H ρ σ) : EnvR c' H' ρ σ :=
  ⟨e.1, fun i x h => let ⟨v, h2, r⟩ := e.2 i x h; ⟨v, h2, r.hid f⟩⟩
theorem RelO.hid {a : Addr} {o : AO} (f : Same2 c c' D H H') (n : a ≠ D) (r : RelO c H a o) : RelO c' H' a o := by
  cases o with
  | lst xs =>
    obtain ⟨vs, h1, h2⟩ := r
    exact ⟨vs, by rw [f.fit.eq a n]; exact h1, h2.hid f⟩
  | dic xs =>
    obtain ⟨vs, h1, h2⟩ := r
    exact ⟨vs, by rw [f.fit.eq a n]; exact h1, h2.hid f⟩
  | obj m xs =>
    obtain ⟨dx, vs, h1, h2⟩ := r
    exact ⟨dx, vs, by rw [f.fit.eq a n, f.K]; exact h1, h2.hid f⟩
  | nod xs => exact (f.fit.eq a n).trans r
  | lkd xs =>
    obtain ⟨od, vs, h1, h2⟩ := r
    exact ⟨od, vs, by rw [f.fit.eq a n]; exact h1, h2.hid f⟩
theorem Cor.hid (f : Same2 c c' D H H') (k : Cor c S H) (hn : ∀ a ∈ c.tr, a ≠ D) (hap : ∀ a ∈ c'.tr, ¬ c'.hid a) (hl : ∀ a, c'.hid a → H' a ≠ none) : Cor c' S H' :=
  ⟨by rw [f.tr]; exact k.len, by rw [f.tr]; exact k.nd, hap, hl, fun i o a e1 e2 => by
    rw [f.tr] at e2
    exact (k.at_ i o a e1 e2).hid f (hn a (List.mem_of_getElem? e2))⟩
end
end
end Dl
set_option Elab.async false
set_option linter.all false
set_option maxRecDepth 100000
set_option maxHeartbeats 4000000
namespace Dl
open PySem PySem.Spec PyProof.Rows L2 Evl Cm
section
variable {W : WX} {K : PySem.W.Frag} {c c' : Co} {S : Store} {H H' : Hp} {x y z : AV} {u v : V} {xs ys : List AV} {us vs : List V} {te ta : TE} {da de : DE} {tA : TA} {dA : DA}
/-! ### comprehensions -/
def wipeE (ρ : Env) : List Nat → Env
  | [] => ρ
  | v :: vs => (wipeE ρ vs).set v none
theorem EnvR.wipe {ρ : Env} {σ : L2.St} (e : EnvR c H ρ σ) : ∀ vs : List Nat, EnvR c H (wipeE ρ vs) (L2.wipe σ vs)
  | [] => e
  | v :: vs => (EnvR.wipe e vs).clear
/-- the targets are the block's own -/
def GW (vs : List Nat) (g : TG) : Prop := ∀ v σ H Q, g v σ H Q → g v σ H fun σ2 H2 => wipe σ2 vs = wipe σ vs ∧ Q σ2 H2
def GWs (vs : List Nat) (g : TGs) : Prop := ∀ v σ H Q, g v σ H Q → g v σ H fun σ2 H2 => wipe σ2 vs = wipe σ vs ∧ Q σ2 H2
theorem wipe_set {σ : L2.St} {j : Nat} {y : Option V} : ∀ {vs : List Nat}, j ∈ vs → wipe (σ.set j y) vs = wipe σ vs
  | [], h => absurd h List.not_mem_nil
  | v :: vs, h => by
    unfold L2.wipe
    by_cases q : j ∈ vs
    · rw [wipe_set q]
    · have e : j = v := by
        rcases List.mem_cons.mp h with z | z
        · exact z
        · exact absurd z q
      subst e
      have out : ∀ {vs : List Nat}, j ∉ vs → wipe (σ.set j y) vs = (wipe σ vs).set j y := fun {vs} hv => by
        induction vs with
        | nil => rfl
        | cons w ws ih =>
          unfold L2.wipe
          rw [ih fun z => hv (List.mem_cons_of_mem _ z)]
          exact List.set_comm _ _ fun z => hv (by rw [z]; exact List.mem_cons_self)
      rw [out q, List.set_set]
theorem gw_name {vs : List Nat} {j : Nat} (h : j ∈ vs := by decide) : GW vs (gName j) := fun v σ H Q q => ⟨wipe_set h, q⟩
theorem gws_nil {vs : List Nat} : GWs vs gNil := fun v σ H Q q => ⟨q.1, rfl, q.2⟩
/-- readings of targets grow with what is wanted -/
def GM (g : TG) : Prop := ∀ v σ H Q Q', g v σ H Q → (∀ σ2 H2, Q σ2 H2 → Q' σ2 H2) → g v σ H Q'
def GMs (g : TGs) : Prop := ∀ v σ H Q Q', g v σ H Q → (∀ σ2 H2, Q σ2 H2 → Q' σ2 H2) → g v σ H Q'
theorem gm_name {j : Nat} : GM (gName j) := fun v σ H Q Q' q h => h _ _ q
theorem gms_nil : GMs gNil := fun v σ H Q Q' q h => ⟨q.1, h _ _ q.2⟩
theorem gms_cons {t : TG} {r : TGs} (a : GM t) (b : GMs r) : GMs (gCons t r) := fun v σ H Q Q' q h => by
  obtain ⟨x, l, e, q⟩ := q
  exact ⟨x, l, e, a _ _ _ _ _ q fun σ2 H2 q2 => b _ _ _ _ _ q2 h⟩
theorem gm_tup {n : Nat} {r : TGs} (b : GMs r) : GM (gTup K n r) := fun v σ H Q Q' q h => by
  obtain ⟨a, l, e, s, n, q⟩ := q
  exact ⟨a, l, e, s, n, b _ _ _ _ _ q h⟩
theorem gws_cons {vs : List Nat} {t : TG} {r : TGs} (a : GW vs t) (m : GM t) (b : GWs vs r) (m2 : GMs r) : GWs vs (gCons t r) := fun v σ H Q q => by
  obtain ⟨x, l, e, q⟩ := q
  refine ⟨x, l, e, m _ _ _ _ _ (a _ _ _ _ q) fun σ2 H2 h => ?_⟩
  refine m2 _ _ _ _ _ (b _ _ _ _ h.2) fun σ3 H3 h3 => ⟨h3.1.trans h.1, h3.2⟩
theorem gw_tup {vs : List Nat} {n : Nat} {r : TGs} (b : GWs vs r) : GW vs (gTup K n r) := fun v σ H Q q => by
  obtain ⟨a, l, e, s, n, q⟩ := q
  exact ⟨a, l, e, s, n, b _ _ _ _ q⟩
theorem wipe_wipe {σ : L2.St} : ∀ {vs : List Nat}, wipe (wipe σ vs) vs = wipe σ vs := fun {vs} => by
  have out : ∀ (ws : List Nat) (τ : L2.St), (∀ j ∈ ws, j < τ.length → τ[j]? = some none) → wipe τ ws = τ := fun ws => by
    induction ws with
    | nil => exact fun _ _ => rfl
    | cons w ws ih =>
      intro τ h
      unfold L2.wipe
      rw [ih τ fun j hj => h j (List.mem_cons_of_mem _ hj)]
      by_cases hl : w < τ.length
      · have e := h w List.mem_cons_self hl
        apply List.ext_getElem?
        intro i
        by_cases q : i = w
        · subst q
          rw [List.getElem?_set_self hl, e]
        · rw [List.getElem?_set_ne (Ne.symm q)]
      · exact List.set_eq_of_length_le (by omega)
  refine out vs _ fun j hj hl => ?_
  cases e : (wipe σ vs)[j]? with
  | none => exact absurd hl (by simpa using e)
  | some o =>
    cases o with
    | none => rfl
    | some x => exact absurd hj (wipe_some e).2
def Res.nox {α : Type} (r : Res α) : Res α := match r with
  | .exc _ _ => .bad
  | r => r
@[simp] theorem Res.nox_ok {α : Type} (a : α) (S : Store) : (Res.ok a S).nox = .ok a S := rfl
theorem nox_post {α : Type} {r : Res α} {g : α → Store → Prop} {x y : AV → Store → Prop} (h : r.nox.post g x) : r.post g y := by
  cases r with
  | ok a S => exact h
  | exc e S => exact False.elim h
  | bad => exact h
def lcL (gd : Store → Bool) (dg : DG) (dt : DT) (de : DE) (ρ : Env) : List AV → Store → Res (List AV)
  | [], S => if gd S then .ok [] S else .bad
  | x :: r, S => if gd S then (match dg x ρ with
    | some ρ1 => (dt ρ1 S).nox.bind fun b S1 => if b = true then (de ρ1 S1).nox.bind fun y S2 => (lcL gd dg dt de ρ r S2).bind fun ys S3 => .ok (y :: ys) S3 else lcL gd dg dt de ρ r S1
    | none => .bad) else .bad
def dlLc (di : DI) (dg : DG) (dt : DT) (de : DE) (vs : List Nat) : DL := fun ρ S => (di ρ S).bind fun its S1 => if its.xs.length ≤ lim then lcL its.gd dg dt de (wipeE ρ vs) its.xs S1 else .bad
def dYes : DT := fun _ S => .ok true S
theorem st_yes : ST W K tYes dYes := fun ρ S c σ H Q hK k e h => h c H (Nxt.refl c H) k
theorem lcL_gd {gd : Store → Bool} {dg : DG} {dt : DT} {de : DE} {ρ : Env} {xs : List AV} {S : Store} {g : List AV → Store → Prop} {x : AV → Store → Prop} (h : (lcL gd dg dt de ρ xs S).post g x) : gd S = true := by
  cases xs with
  | nil =>
    unfold lcL at h
    split at h
    · assumption
    · exact False.elim h
  | cons y r =>
    unfold lcL at h
    split at h
    · assumption
    · exact False.elim h
abbrev W0 : WX := fun _ _ _ _ => False
theorem sl_lc {wi : TI} {di : DI} {g : TG} {dg : DG} {tt : TT} {dt : DT} {te : TE} {de : DE} {vs : List Nat} (hi : SI W K wi di) (hg : SG K g dg) (hw : GW vs g) (hm : GM g) (ht : ST W0 K tt dt) (he : SE W0 K te de) : SEL W K (tLc wi g tt te vs) (dlLc di dg dt de vs) := by
  intro ρ S c σ H Q hK k e h
  refine hi ρ S c σ H _ hK k e (Res.post_mono (Res.post_bind.mp h) (fun its S1 h1 => ?_) fun _ _ z => z)
  intro c1 H1 J n1 k1 ⟨G, Y, w, hG, hY⟩ D hD
  have e1 := (e.nxt n1).wipe vs
  have hK1 := n1.K.trans hK
  split at h1
  next hl =>
    have hDn := k1.out hD
    let X : AV → Store → Prop := Fall c H (WE W σ)
    let P : Nat → Hp → Prop := fun i H' => ∃ c' S' acc accA, Nxt c1 H1 c' H' ∧ c'.hid D ∧ D ∉ c'.tr ∧ Cor c' S' H' ∧ EnvR c' H' (wipeE ρ vs) (L2.wipe σ vs) ∧ H' D = some (.lst acc) ∧ Rels c' H' accA acc ∧ acc.length ≤ i ∧
      (lcL its.gd dg dt de (wipeE ρ vs) (its.xs.drop i) S').post (fun ys S2 => ∀ c2 H0 us p, Nxt c H c2 H0 → Cor c2 S2 H0 → H0 p = none → Rels c2 H0 (accA ++ ys) us → Q (.ref p) (upd H0 p (.lst us))) X
    have ne1 : ∀ a, H1 a ≠ none → a ≠ D := fun a h z => h (by rw [z]; exact hD)
    have nh : Nxt c1 H1 (c1.hide D) (upd H1 D (.lst [])) := by
      have n := Nxt.new (c := c1) (o := .lst []) hD
      exact ⟨rfl, rfl, ⟨fun _ h => .inr h, fun a h => h.elim (fun z => .inr (by rw [z]; exact hD)) .inl⟩, ⟨[], by simp [Co.hide], fun _ h => absurd h List.not_mem_nil⟩, n.keep, n.hkeep, n.tup, n.frz, n.live⟩
    refine lc_it w P ?_ ?_ ?_ ?_
    · refine ⟨c1.hide D, S1, [], [], nh, .inl rfl, hDn.1, ?_, e1.nxt nh, upd_same, .nil, Nat.le_refl _, ?_⟩
      · refine ⟨k1.len, k1.nd, fun a ha z => z.elim (fun z => hDn.1 (by rw [← z]; exact ha)) (k1.apart a ha), fun a ha => ?_, fun i o a e1 e2 => ?_⟩
        · rcases ha with z | z
          · rw [z, upd_same]
            simp
          · exact nh.live a (k1.hl a z)
        · have r := k1.at_ i o a e1 e2
          exact r.nxt nh (upd_ne (ne1 a r.isThere))
      · rw [List.drop_zero]
        exact h1
    · rintro i H' hi ⟨c', S', acc, accA, n, hh, ht, k', e', hd, ra, hl, p⟩
      exact hG c' S' H' n.w k' (lcL_gd p)
    · rintro i x H' H2 hi ⟨c', S', acc, accA, n, hh, htr, k', e', hd, ra, hl', p⟩ y
      have gS := lcL_gd p
      obtain ⟨z, hz, n2, k2, r2⟩ := hY i x H' H2 c' S' hi n.w k' gS y
      have hdr : its.xs.drop i = z :: its.xs.drop (i + 1) := by
        obtain ⟨hl2, hz'⟩ := List.getElem?_eq_some_iff.mp hz
        rw [List.drop_eq_getElem_cons hl2, hz']
      rw [hdr] at p
      unfold lcL at p
      rw [if_pos gS] at p
      have hK' := n.K.trans hK1
      cases q : dg z (wipeE ρ vs) with
      | none =>
        rw [q] at p
        exact False.elim p
      | some ρ1 =>
        rw [q] at p
        simp only at p
        refine hm _ _ _ _ _ (hw _ _ _ _ (hg z x (wipeE ρ vs) ρ1 S' c' _ H2 (fun σ2 H3 => ∃ c3, Nxt c' H2 c3 H3 ∧ Cor c3 S' H3 ∧ EnvR c3 H3 ρ1 σ2) hK' k2 (e'.nxt n2) r2 q fun c3 H3 σ3 n3 k3 e3 => ⟨c3, n3, k3, e3⟩)) ?_
        rintro σ2 H3 ⟨hwp, c3, n3, k3, e3⟩
        refine ⟨hwp.trans wipe_wipe, ?_⟩
        have n23 := n2.trans n3
        have hK3 := n23.K.trans hK'
        refine ht ρ1 S' c3 σ2 H3 _ hK3 k3 e3 (Res.post_mono (nox_post (Res.post_bind.mp p)) (fun b S3 g => ?_) fun _ _ z => z)
        intro c4 H4 n4 k4
        have n24 := n23.trans n4
        have hd4 : ∀ {c5 H5}, Nxt c' H' c5 H5 → H5 D = some (.lst acc) := fun n5 => n5.hkeep _ _ hh hd
        have base : ∀ {c5 H5}, Nxt c' H' c5 H5 → c5.hid D ∧ D ∉ c5.tr := fun {c5 H5} n5 => ⟨n5.hid.1 D hh, fun w => by
          obtain ⟨l, el, hl3⟩ := n5.tr
          rw [el] at w
          rcases List.mem_append.mp w with w | w
          · exact htr w
          · have := hl3 D w
            rw [hd] at this
            cases this⟩
        cases b with
        | false =>
          exact ⟨c4, S3, acc, accA, n.trans n24, (base n24).1, (base n24).2, k4, e'.nxt n24, hd4 n24, ra.nxt n24, by omega, g⟩
        | true =>
          have e4 := e3.nxt n4
          refine he ρ1 S3 c4 σ2 H4 _ (n4.K.trans hK3) k4 e4 (Res.post_mono (nox_post (Res.post_bind.mp g)) (fun w S4 g2 => ?_) fun _ _ z => z)
          intro c5 H5 v5 n5 k5 r5
          have n25 := n24.trans n5
          have hD5 := hd4 n25
          refine ⟨acc, hD5, ?_, ?_⟩
          · have : acc.length < lim := by omega
            rw [sizeLine_eq]
            unfold lim at this
            omega
          · obtain ⟨b1, b2⟩ := base n25
            -- the list grows
            have upk : ∀ a, a ≠ D → upd H5 D (.lst (acc ++ [v5])) a = H5 a := fun a ha => upd_ne ha
            have sm : Same2 c5 c5 D H5 (upd H5 D (.lst (acc ++ [v5]))) := ⟨rfl, rfl, rfl, fun a _ ho => ⟨fun z => ho.2 (by rw [z]; exact b1), ho⟩, ⟨upk, fun xs z => (by rw [hD5] at z; cases z), fun o u z => (by rw [hD5] at z; cases z)⟩⟩
            have nb := n.trans n25
            have nu : Nxt c1 H1 c5 (upd H5 D (.lst (acc ++ [v5]))) := by
              have ou : ∀ a u, H1 a = some u → upd H5 D (.lst (acc ++ [v5])) a = H5 a := fun a u z => upk a (ne1 a (by rw [z]; simp))
              refine ⟨nb.K, nb.ex, nb.hid, nb.tr, fun a u ha z => by rw [ou a u z]; exact nb.keep a u ha z, fun a u ha z => by rw [ou a u z]; exact nb.hkeep a u ha z, fun a u z => by rw [ou a _ z]; exact nb.tup a u z, fun a o u z => by rw [ou a _ z]; exact nb.frz a o u z, fun a z => ?_⟩
              rw [upk a (ne1 a z)]
              exact nb.live a z
            refine ⟨c5, S4, acc ++ [v5], accA ++ [w], nu, b1, b2, ?_, (e'.nxt n25).hid sm, upd_same, ((ra.nxt n25).app (.one r5)).hid sm, by rw [List.length_append, List.length_singleton]; omega, ?_⟩
            · refine k5.hid sm (fun a ha z => b2 (by rw [← z]; exact ha)) k5.apart fun a ha => ?_
              by_cases z : a = D
              · rw [z, upd_same]
                simp
              · rw [upk a z]
                exact k5.hl a ha
            · refine Res.post_mono (Res.post_bind.mp g2) (fun ys S6 g3 => ?_) fun _ _ z => z
              intro c2 H0 us p m1 m2 m3 m4
              rw [List.append_assoc] at m4
              exact g3 c2 H0 us p m1 m2 m3 m4
    · rintro H' ⟨c', S', acc, accA, n, hh, htr, k', e', hd, ra, hl', p⟩
      rw [List.drop_length] at p
      unfold lcL at p
      split at p
      · have p : ∀ c2 H0 us p, Nxt c H c2 H0 → Cor c2 S' H0 → H0 p = none → Rels c2 H0 (accA ++ []) us → Q (.ref p) (upd H0 p (.lst us)) := p
        let H0 : Hp := fun a => if a = D then none else H' a
        have h0 : ∀ a, a ≠ D → H0 a = H' a := fun a ha => if_neg ha
        have h0D : H0 D = none := if_pos rfl
        have eH : upd H0 D (.lst acc) = H' := by
          funext a
          by_cases z : a = D
          · rw [z, upd_same, hd]
          · rw [upd_ne z, h0 a z]
        have sm : Same2 c' (c'.unhide D) D H' H0 := ⟨rfl, rfl, rfl, fun a _ ho => ⟨fun z => ho.2 (by rw [z]; exact hh), ho.1, fun z => ho.2 z.2⟩, ⟨h0, fun xs z => (by rw [hd] at z; cases z), fun o u z => (by rw [hd] at z; cases z)⟩⟩
        have nu : Nxt c1 H1 (c'.unhide D) H0 := by
          have ou : ∀ a u, H1 a = some u → H0 a = H' a := fun a u z => h0 a (ne1 a (by rw [z]; simp))
          refine ⟨n.K, n.ex, ⟨fun a z => ⟨fun w => hDn.2 (by rw [← w]; exact z), n.hid.1 a z⟩, fun a z => n.hid.2 a z.2⟩, n.tr, fun a u ha z => by rw [ou a u z]; exact n.keep a u ha z, fun a u ha z => by rw [ou a u z]; exact n.hkeep a u ha z, fun a u z => by rw [ou a _ z]; exact n.tup a u z, fun a o u z => by rw [ou a _ z]; exact n.frz a o u z, fun a z => ?_⟩
          rw [h0 a (ne1 a z)]
          exact n.live a z
        have r := p (c'.unhide D) H0 acc D (n1.trans nu) (k'.hid sm (fun a ha z => htr (by rw [← z]; exact ha)) (fun a ha z => k'.apart a ha z.2) fun a ha => by rw [h0 a ha.1]; exact k'.hl a ha.2) h0D (by rw [List.append_nil]; exact ra.hid sm)
        rw [eH] at r
        exact r
      · exact False.elim p
  next => exact False.elim h1
end
end Dl
set_option Elab.async false
set_option linter.all false
set_option maxRecDepth 100000
set_option maxHeartbeats 4000000
namespace Dl
open PySem PySem.Spec PyProof.Rows L2 Evl Cm
/-! ### a list, a tuple or a text, walked -/
def iAny (K : PySem.W.Frag) (tl : TE) : TI := fun σ H R => tl σ H fun x H1 => (∃ a xs, x = .ref a ∧ SqL K H1 a xs ∧ R (Itl K a) H1) ∨ (∃ a xs, x = .ref a ∧ SqT K H1 a xs ∧ R (Itt K a) H1) ∨ ∃ z, x = .str z ∧ R (L2.Its z) H1
theorem pi_any {X : Cx} {tg l : Expr} {tl : TE} (hl : PE X l tl) : PI X tg l (iAny X.K tl) := by
  refine ⟨fun pins s σ H R I h => thn (hl.run pins s σ H _ I h) fun v s1 hh => ?_⟩
  obtain ⟨x, H1, J, rx, q⟩ := hh
  rcases q with ⟨a, xs, rfl, hs, q⟩ | ⟨a, xs, rfl, hs, q⟩ | ⟨z, rfl, q⟩
  · obtain rfl : v = Value.ref a := rx
    obtain ⟨us, _, pl, _⟩ := J.list hs
    exact wpAny_pyIter_list pl.isList (pi_one (tk := s1.toks) J _ (turn_list a _) ⟨_, Heap.get?_push_size _ rfl, rfl, rfl⟩ q)
  · obtain rfl : v = Value.ref a := rx
    obtain ⟨us, _, pt, _⟩ := J.tuple hs
    exact wpAny_pyIter_tuple (show s1.heap.IsTuple a us.toArray from pt) (pi_one (tk := s1.toks) J _ (turn_tuple a _) ⟨_, Heap.get?_push_size _ rfl, rfl, rfl⟩ q)
  · obtain ⟨t, rfl⟩ := rx
    cases hz : z.cps.all (· < 128) with
    | false => exact wpAny_pyIter_wide hz (pi_one (tk := s1.toks) J _ (turn_str _ z t "str_iterator" (.inr rfl)) ⟨_, Heap.get?_push_size _ rfl, rfl, rfl⟩ q)
    | true => exact wpAny_pyIter_ascii hz (pi_one (tk := s1.toks) J _ (turn_str _ z t "str_ascii_iterator" (.inl rfl)) ⟨_, Heap.get?_push_size _ rfl, rfl, rfl⟩ q)
section
variable {W : WX} {K : PySem.W.Frag} {c c' : Co} {S : Store} {H H' : Hp} {x y z : AV} {u v : V} {xs ys : List AV} {us vs : List V} {te ta : TE} {da de : DE} {tA : TA} {dA : DA}
/-- what is walked: the items, and that a list of the store stays -/
def signs (z : Str) : List AV := z.cps.toList.map fun n => .str ⟨#[n]⟩
def itsOf (S : Store) : AV → Option Wk
  | .str z => some ⟨signs z, fun _ => true⟩
  | .ref i => (stL S i).map fun xs => ⟨xs, fun S => eqL S i xs⟩
  | .tup _ xs => some ⟨xs, fun _ => true⟩
  | .lst xs => some ⟨xs, fun _ => true⟩
  | _ => none
def diAny (da : DE) : DI := fun ρ S => (da ρ S).bind fun x S1 => ofO (itsOf S1 x) S1
/-- walks over a sequence, item by item -/
theorem itok_at {c1 : Co} {H1 : Hp} {xs : List AV} {vs : List V} {gd : Store → Bool} {J : It} {G : Hp → Prop} (w : Walk J vs.length G (YAt vs)) (r : Rels c1 H1 xs vs) (hG : ∀ c S H, Nxw c1 H1 c H → Cor c S H → gd S = true → G H)
     : ItOk c1 H1 ⟨xs, gd⟩ J := by
  refine ⟨G, YAt vs, by rw [show (Wk.mk xs gd).xs.length = vs.length from r.len]; exact w, hG, fun i x H H' c S hi n k g y => ?_⟩
  obtain ⟨e, hx⟩ := y
  subst e
  obtain ⟨z, hz, rz⟩ := r.at' hx
  exact ⟨z, hz, Nxt.refl c _, k, rz.nxw n⟩
theorem si_any (ha : SE W K ta da) : SI W K (iAny K ta) (diAny da) := by
  intro ρ S c σ H R hK k e h
  refine ha ρ S c σ H _ hK k e (Res.post_mono (Res.post_bind.mp h) (fun x S1 h1 => ?_) fun _ _ z => z)
  intro c1 H1 u n1 k1 r1
  obtain ⟨its, hi, g⟩ := ofO_post h1
  have hK1 := n1.K.trans hK
  cases x with
  | str z =>
    cases hi
    obtain ⟨e1, s1⟩ := r1.s
    refine .inr (.inr ⟨z, e1, g c1 H1 _ n1 k1 ?_⟩)
    have hl : (signs z).length = z.cps.size := by
      unfold signs
      rw [List.length_map, Array.length_toList]
    refine ⟨fun _ => True, (fun i H v H' => H' = H ∧ ∃ c, z.cps[i]? = some c ∧ v = .str ⟨#[c]⟩), ?_, fun _ _ _ _ _ _ => trivial, fun i x H H' c S hi n k _ y => ?_⟩
    · rw [hl]
      exact walk_str
    · obtain ⟨rfl, m, hm, rfl⟩ := y
      have hm' : z.cps.toList[i]? = some m := by simpa using hm
      refine ⟨.str ⟨#[m]⟩, ?_, Nxt.refl c _, k, .str (s1.sign (List.mem_of_getElem? hm'))⟩
      show (signs z)[i]? = _
      unfold signs
      rw [List.getElem?_map, hm']
      rfl
  | ref i =>
    have hi : ((stL S1 i).map fun xs => (⟨xs, fun S => eqL S i xs⟩ : Wk)) = some its := hi
    obtain ⟨xs, h2, h3⟩ := Option.map_eq_some_iff.mp hi
    subst h3
    obtain ⟨a, rfl, ht, vs, h4, rs⟩ := k1.obj r1 (stL_eq.mp h2)
    refine .inl ⟨a, vs, rfl, sq_of h4, g c1 H1 _ n1 k1 ?_⟩
    have hn : ∀ c S H, Nxw c1 H1 c H → Cor c S H → eqL S i xs = true → ∃ us, H a = some (.lst us) ∧ Rels c H xs us := fun c S H n k hs => by
      obtain ⟨us, h5, h6⟩ := k.at_ i _ a (stL_eq.mp (eqL_iff.mp hs)) (n.at ht)
      exact ⟨us, h5, h6⟩
    -- the walk is that of whatever list relates to the items
    refine ⟨fun H => ∃ us, H a = some (.lst us) ∧ us.length = xs.length, fun i H x H' => H' = H ∧ ∃ us, H a = some (.lst us) ∧ us[i]? = some x, ⟨fun j H hj q => ?_, fun H q => ?_, fun j H x H' hj q y => ?_⟩, fun c S H n k hs => ?_, fun j x H H' c S hj n k hs y => ?_⟩
    · obtain ⟨us, q1, q2⟩ := q
      exact ⟨us, us[j]'(by rw [q2]; exact hj), sq_of q1, List.getElem?_eq_getElem _⟩
    · obtain ⟨us, q1, q2⟩ := q
      exact ⟨us, sq_of q1, by rw [q2]; exact Nat.le_refl _⟩
    · obtain ⟨us, q1, q2⟩ := q
      exact ⟨y.1, us, q1, y.2 us (sq_of q1)⟩
    · obtain ⟨us, h5, h6⟩ := hn c S H n k hs
      exact ⟨us, h5, h6.len.symm⟩
    · obtain ⟨e1, us, h5, h7⟩ := y
      subst e1
      obtain ⟨us', h5', h6⟩ := hn c S _ n k hs
      rw [h5] at h5'
      cases h5'
      obtain ⟨z, hz, rz⟩ := h6.at' h7
      exact ⟨z, hz, Nxt.refl c _, k, rz⟩
  | tup p xs =>
    cases hi
    cases r1 with
    | @tup a _ _ vs hs _ rs =>
      rw [hK1] at hs
      exact .inr (.inl ⟨a, vs, rfl, hs, g c1 H1 _ n1 k1 (itok_at (walk_tup (K := K)) rs fun c S H n _ _ => by
        have := n.sqT (by rw [hK1]; exact hs)
        rw [n.K, hK1] at this
        exact this)⟩)
  | lst xs =>
    cases hi
    cases r1 with
    | @lst a _ vs hs ho rs => exact .inl ⟨a, vs, rfl, sq_of hs, g c1 H1 _ n1 k1 (itok_at (walk_list (K := K)) rs fun c S H n _ _ => sq_of (n.keep _ _ ho hs))⟩
  | _ => cases hi
/-! ### ranges -/
def rngB (i : Int) : Bool := decide (-(2 ^ 62) ≤ i) && decide (i < 2 ^ 62)
def rngL (lo : Int) (n : Nat) : List AV := (List.range n).map fun (j : Nat) => .int (lo + (j : Int))
theorem rngL_len {lo : Int} {n : Nat} : (rngL lo n).length = n := by
  unfold rngL
  simp
theorem rngL_at {lo : Int} {n i : Nat} (h : i < n) : (rngL lo n)[i]? = some (.int (lo + i)) := by
  unfold rngL
  rw [List.getElem?_map, List.getElem?_range h]
  rfl
def itsR1 (xs : List AV) : Option Wk := match xs with
  | [.int j] => if rngB j then some ⟨rngL 0 j.toNat, fun _ => true⟩ else none
  | _ => none
def itsR2 (xs : List AV) : Option Wk := match xs with
  | [.int i, .int j] => if rngB i && rngB j then some ⟨rngL i (j - i).toNat, fun _ => true⟩ else none
  | _ => none
def diRng1 (dA : DA) : DI := fun ρ S => (dA ρ S).bind fun xs S1 => ofO (itsR1 xs) S1
def diRng2 (dA : DA) : DI := fun ρ S => (dA ρ S).bind fun xs S1 => ofO (itsR2 xs) S1
theorem itok_r {c1 : Co} {H1 : Hp} {lo : Int} {n : Nat} : ItOk c1 H1 ⟨rngL lo n, fun _ => true⟩ (Itr lo n) := by
  refine ⟨fun _ => True, (YFn fun i => .int (lo + i)), by rw [show (Wk.mk (rngL lo n) fun _ => true).xs.length = n from rngL_len]; exact walk_range, fun _ _ _ _ _ _ => trivial, fun i x H H' c S hi m k _ y => ?_⟩
  obtain ⟨e, rfl⟩ := y
  subst e
  have hi' : i < n := by
    have := hi
    rw [show (Wk.mk (rngL lo n) fun _ => true).xs.length = n from rngL_len] at this
    exact this
  exact ⟨_, rngL_at hi', Nxt.refl c _, k, .int _⟩
theorem one_i {i : Int} {us : List V} (rs : Rels c H [.int i] us) : us = [.int i] := by
  cases rs with
  | cons r rs =>
    cases rs
    rw [r.i]
theorem si_rng1 (ha : SA W K tA dA) : SI W K (iRng1 tA) (diRng1 dA) := by
  intro ρ S c σ H R hK k e h
  refine ha ρ S c σ H _ hK k e (Res.post_mono (Res.post_bind.mp h) (fun xs S1 h1 => ?_) fun _ _ z => z)
  intro c1 H1 us n1 k1 rs
  obtain ⟨its, hi, g⟩ := ofO_post h1
  unfold itsR1 at hi
  split at hi
  · split at hi
    · rename_i hb
      cases hi
      obtain ⟨b1, b2⟩ := Bool.and_eq_true_iff.mp hb
      exact ⟨_, one_i rs, of_decide_eq_true b1, of_decide_eq_true b2, g c1 H1 _ n1 k1 itok_r⟩
    · cases hi
  · cases hi
theorem si_rng2 (ha : SA W K tA dA) : SI W K (iRng2 tA) (diRng2 dA) := by
  intro ρ S c σ H R hK k e h
  refine ha ρ S c σ H _ hK k e (Res.post_mono (Res.post_bind.mp h) (fun xs S1 h1 => ?_) fun _ _ z => z)
  intro c1 H1 us n1 k1 rs
  obtain ⟨its, hi, g⟩ := ofO_post h1
  unfold itsR2 at hi
  split at hi
  · split at hi
    · rename_i hb
      cases hi
      obtain ⟨h3, h4⟩ := Bool.and_eq_true_iff.mp hb
      obtain ⟨b1, b2⟩ := Bool.and_eq_true_iff.mp h3
      obtain ⟨b3, b4⟩ := Bool.and_eq_true_iff.mp h4
      exact ⟨_, _, two (P := True) rs rfl, ⟨of_decide_eq_true b1, of_decide_eq_true b2, of_decide_eq_true b3, of_decide_eq_true b4⟩, g c1 H1 _ n1 k1 itok_r⟩
    · cases hi
  · cases hi
/-! ### enumerate -/
def iEnA (K : PySem.W.Frag) (ta : TA) : TI := fun σ H R => ta σ H fun vs H1 => ∃ a xs, vs = [.ref a] ∧ ((SqL K H1 a xs ∧ R (Ite K a) H1) ∨ (SqT K H1 a xs ∧ R (IteT K a) H1))
theorem pi_enA {X : Cx} {e : Expr} {ta : TA} {p pos tpos : Pos} {elts : List Expr} {kk : Nat} (hg : Gl X "enumerate") (hm : X.mg "enumerate" = none) (ha : PA X [e] ta)
    (hs : starEach [e] X.env = [(false, eval e X.env)] := by rfl) : PI X (.Tuple elts kk tpos) (.Call (.Name "enumerate" p) [e] [] pos) (iEnA X.K ta) := by
  refine ⟨fun pins s σ H R I h => Call_ (ld_blt I hg hm boot_enumerate (PyProof.Rows.callWith_type1 (thn (ha.run pos pins s σ H _ I h) fun us s1 hh => ?_) hs rfl) (by decide) (by decide))⟩
  obtain ⟨vs, H1, J, rr, a, xs, rfl, q⟩ := hh
  have fp : ∀ b ∈ [s1.heap.objs.size + 1, s1.heap.objs.size], FpOk X pins H1 b := fun b hb => by
    have hle : s1.heap.objs.size ≤ b := by
      simp only [List.mem_cons, List.not_mem_nil, or_false] at hb
      omega
    exact J.fpOk hle (J.hok.fresh hle)
  cases rr with
  | @cons _ w _ _ ra rt =>
    cases rt
    obtain rfl : w = Value.ref a := ra
    rcases q with ⟨hs, q⟩ | ⟨hs, q⟩
    · obtain ⟨us, _, pl, _⟩ := J.list hs
      exact call_enumerate_list pl.isList fun h' he hit hz hk => wpAny_pyIter_enum he ⟨_, _, _, Ite X.K a, H1, rfl, J.kept (t' := s1.toks) hk, turn_enum a (s1.heap.objs.size + 1) s1.heap.objs.size, ⟨⟨Value.none, he⟩, hit, Nat.succ_ne_self _⟩, fp, q⟩
    · obtain ⟨us, _, pt, _⟩ := J.tuple hs
      have hT : s1.heap.IsTuple a us.toArray := pt
      exact call_enum_tuple hT fun h' he hit hz hk => wpAny_pyIter_enum he ⟨_, _, _, IteT X.K a, H1, rfl, J.kept (t' := s1.toks) hk, turn_enumT a (s1.heap.objs.size + 1) s1.heap.objs.size, ⟨⟨Value.none, he⟩, hit, Nat.succ_ne_self _⟩, fp, q⟩
def numd : Nat → List AV → List AV
  | _, [] => []
  | n, x :: r => .tup false [.int n, x] :: numd (n + 1) r
theorem numd_at : ∀ {xs : List AV} {n i : Nat} {x : AV}, xs[i]? = some x → (numd n xs)[i]? = some (.tup false [.int ((n + i : Nat) : Int), x])
  | [], _, _, _, h => by simp at h
  | y :: r, n, 0, x, h => by
    cases h
    rfl
  | y :: r, n, i + 1, x, h => by
    have h' : r[i]? = some x := by simpa using h
    have := numd_at (n := n + 1) h'
    show (numd (n + 1) r)[i]? = _
    rw [this, Nat.add_assoc, Nat.add_comm 1 i]
theorem numd_len : ∀ {xs : List AV} {n : Nat}, (numd n xs).length = xs.length
  | [], _ => rfl
  | _ :: _, _ => congrArg (· + 1) numd_len
def itsE (S : Store) (xs : List AV) : Option Wk := match xs with
  | [.ref i] => (stL S i).map fun xs => ⟨numd 0 xs, fun S => eqL S i xs⟩
  | [.lst xs] => some ⟨numd 0 xs, fun _ => true⟩
  | [.tup _ xs] => some ⟨numd 0 xs, fun _ => true⟩
  | _ => none
def diEn (dA : DA) : DI := fun ρ S => (dA ρ S).bind fun xs S1 => ofO (itsE S1 xs) S1
/-- a new pair that is walked -/
theorem pair_ok {v : V} {f g : Nat → Option V} {i : Nat} {x y : AV} (k : Cor c S H) (h : YPair f g i H v H') (hx : ∀ w, f i = some w → Rel c H x w) (hy : ∀ w, g i = some w → Rel c H y w) : Nxt c H c H' ∧ Cor c S H' ∧ Rel c H' (.tup false [x, y]) v := by
  obtain ⟨T, a, b, rfl, hT, rfl, h1, h2⟩ := h
  exact ⟨Nxt.new hT, k.new hT, new_tup hT (.cons (hx a h1) (.cons (hy b h2) .nil))⟩
theorem si_en (ha : SA W K tA dA) : SI W K (iEnA K tA) (diEn dA) := by
  intro ρ S c σ H R hK k e h
  refine ha ρ S c σ H _ hK k e (Res.post_mono (Res.post_bind.mp h) (fun xs S1 h1 => ?_) fun _ _ z => z)
  intro c1 H1 us n1 k1 rs
  obtain ⟨its, hi, g⟩ := ofO_post h1
  have hK1 := n1.K.trans hK
  cases rs with
  | nil => cases hi
  | @cons x w r1 r2 rx rt =>
    cases rt with
    | cons _ _ => cases x <;> cases hi
    | nil =>
      cases x with
      | ref i =>
        have hi : ((stL S1 i).map fun xs => (⟨numd 0 xs, fun S => eqL S i xs⟩ : Wk)) = some its := hi
        obtain ⟨xs, h2, h3⟩ := Option.map_eq_some_iff.mp hi
        subst h3
        obtain ⟨a, rfl, ht, vs, h4, rs⟩ := k1.obj rx (stL_eq.mp h2)
        refine ⟨a, vs, rfl, .inl ⟨sq_of h4, g c1 H1 _ n1 k1 ?_⟩⟩
        have hn : ∀ c S H, Nxw c1 H1 c H → Cor c S H → eqL S i xs = true → ∃ us, H a = some (.lst us) ∧ Rels c H xs us := fun c S H n k hs => by
          obtain ⟨us, h5, h6⟩ := k.at_ i _ a (stL_eq.mp (eqL_iff.mp hs)) (n.at ht)
          exact ⟨us, h5, h6⟩
        refine ⟨fun H => ∃ us, H a = some (.lst us) ∧ us.length = xs.length, fun i H x H' => ∃ us, H a = some (.lst us) ∧ YPair (fun i => some (.int (i : Nat))) (fun i => us[i]?) i H x H', ⟨fun j H hj q => ?_, fun H q => ?_, fun j H x H' hj q y => ?_⟩, fun c S H n k hs => ?_, fun j x H H' c S hj n k hs y => ?_⟩
        · obtain ⟨us, q1, q2⟩ := q
          exact (walk_enum (K := K) (a := a) (xs := us)).goes j H (by rw [q2, ← numd_len (n := 0)]; exact hj) (sq_of q1)
        · obtain ⟨us, q1, q2⟩ := q
          have := (walk_enum (K := K) (a := a) (xs := us)).stops H (sq_of q1)
          rw [q2, ← numd_len (n := 0)] at this
          exact this
        · obtain ⟨us, q1, q2⟩ := q
          exact ⟨us, q1, (walk_enum (K := K) (a := a) (xs := us)).yields j H x H' (by rw [q2, ← numd_len (n := 0)]; exact hj) (sq_of q1) y⟩
        · obtain ⟨us, h5, h6⟩ := hn c S H n k hs
          exact ⟨us, h5, h6.len.symm⟩
        · obtain ⟨us, h5, y⟩ := y
          obtain ⟨us', h5', h6⟩ := hn c S _ n k hs
          rw [h5] at h5'
          cases h5'
          have hj' : j < xs.length := by rw [← numd_len (n := 0)]; exact hj
          have hx := List.getElem?_eq_getElem hj'
          obtain ⟨m1, m2, m3⟩ := pair_ok (x := .int ((0 + j : Nat) : Int)) (y := xs[j]) k y (fun w hw => by cases hw; rw [Nat.zero_add]; exact .int _) (fun w hw => by
            obtain ⟨z, hz, rz⟩ := h6.at' hw
            rw [hx] at hz
            cases hz
            exact rz)
          exact ⟨_, numd_at hx, m1, m2, m3⟩
      | tup p xs =>
        cases hi
        cases rx with
        | @tup a _ _ vs hs _ rs =>
          rw [hK1] at hs
          refine ⟨a, vs, rfl, .inr ⟨hs, g c1 H1 _ n1 k1 ⟨fun H => SqT K H a vs, YPair (fun i => some (.int (i : Nat))) (fun i => vs[i]?), ?_, fun c S H n _ _ => ?_, fun j x H H' c S hj n k _ y => ?_⟩⟩⟩
          · rw [show (Wk.mk (numd 0 xs) fun _ => true).xs.length = vs.length from numd_len.trans rs.len]
            exact walk_enumT
          · have := n.sqT (by rw [hK1]; exact hs)
            rw [n.K, hK1] at this
            exact this
          · have hj' : j < xs.length := by rw [← numd_len (n := 0)]; exact hj
            have hx := List.getElem?_eq_getElem hj'
            obtain ⟨m1, m2, m3⟩ := pair_ok (x := .int ((0 + j : Nat) : Int)) (y := xs[j]) k y (fun w hw => by cases hw; rw [Nat.zero_add]; exact .int _) (fun w hw => by
              obtain ⟨z, hz, rz⟩ := (rs.nxw n).at' hw
              rw [hx] at hz
              cases hz
              exact rz)
            exact ⟨_, numd_at hx, m1, m2, m3⟩
      | lst xs =>
        cases hi
        cases rx with
        | @lst a _ vs hs ho rs =>
          refine ⟨a, vs, rfl, .inl ⟨sq_of hs, g c1 H1 _ n1 k1 ⟨fun H => SqL K H a vs, YPair (fun i => some (.int (i : Nat))) (fun i => vs[i]?), ?_, fun c S H n _ _ => ?_, fun j x H H' c S hj n k _ y => ?_⟩⟩⟩
          · rw [show (Wk.mk (numd 0 xs) fun _ => true).xs.length = vs.length from numd_len.trans rs.len]
            exact walk_enum
          · exact sq_of (n.keep _ _ ho hs)
          · have hj' : j < xs.length := by rw [← numd_len (n := 0)]; exact hj
            have hx := List.getElem?_eq_getElem hj'
            obtain ⟨m1, m2, m3⟩ := pair_ok (x := .int ((0 + j : Nat) : Int)) (y := xs[j]) k y (fun w hw => by cases hw; rw [Nat.zero_add]; exact .int _) (fun w hw => by
              obtain ⟨z, hz, rz⟩ := (rs.nxw n).at' hw
              rw [hx] at hz
              cases hz
              exact rz)
            exact ⟨_, numd_at hx, m1, m2, m3⟩
      | _ => cases hi
end
end Dl
set_option Elab.async false
set_option linter.all false
set_option maxRecDepth 100000
set_option maxHeartbeats 4000000
namespace Dl
open PySem PySem.Spec PyProof.Rows L2 Evl Cm
/-! ### zip(a, b), each a list or a tuple -/
/-- b tells that it is a list -/
def SqB (K : PySem.W.Frag) (H : Hp) (b : Bool) (a : Addr) (xs : List V) : Prop := if b then SqL K H a xs else SqT K H a xs
def ObB (b : Bool) (h : Heap) (a : Addr) (us : Array Value) : Prop := if b then h.IsList a us else h.IsTuple a us
def IrB (b : Bool) (h : Heap) (it a : Addr) (i : Nat) : Prop := if b then h.IsListIter it a i else h.IsTupleIter it a i
theorem sqB_ob {X : Cx} {pins : List (Addr × Obj)} {σ : L2.St} {H : Hp} {s : Shared} {b : Bool} {a : Addr} {xs : List V} (I : Inv X pins σ H s) (h : SqB X.K H b a xs) : ∃ us : List Value, Vals xs us ∧ ObB b s.heap a us.toArray := by
  cases b with
  | true =>
    obtain ⟨us, r, p, _⟩ := I.list h
    exact ⟨us, r, p.isList⟩
  | false =>
    obtain ⟨us, r, p, _⟩ := I.tuple h
    exact ⟨us, r, p⟩
theorem drawsB {prog : Program} {w : World} {A : Around} (hh : A.handled = none) (b : Bool) (it a : Addr) (ne : a ≠ it) (us : Array Value) :
    Draws prog w A it [it, a] us.size (fun i v => us[i]? = some v) (fun i h => IrB b h it a i ∧ ObB b h a us) := by
  cases b with
  | true => exact Draws.list hh it a ne us
  | false => exact Draws.tuple hh it a ne us
theorem beginsB (b : Bool) (a : Addr) (us : Array Value) : ∃ o, Begins (.ref a) o (fun h => ObB b h a us) ∧ (∀ (h : Heap) (it : Addr), h.get? it = some o → IrB b h it a 0) ∧ ∀ v, o.data ≠ .cell v := by
  cases b with
  | true => exact ⟨_, begins_list a us, fun h it e => ⟨_, e, rfl, rfl⟩, fun v q => nomatch q⟩
  | false => exact ⟨_, begins_tuple a us, fun h it e => ⟨_, e, rfl, rfl⟩, fun v q => nomatch q⟩
theorem irB_at {b : Bool} {h h' : Heap} {it a : Addr} {i : Nat} (p : IrB b h it a i) (k : ∀ o, h.get? it = some o → h'.get? it = some o) : IrB b h' it a i := by
  cases b with
  | true => exact (show h.IsListIter it a i from p).at k
  | false => exact (show h.IsTupleIter it a i from p).at k
theorem irB_ob {b : Bool} {h : Heap} {it a : Addr} {i : Nat} (p : IrB b h it a i) : ∃ o, h.get? it = some o ∧ (∀ v, o.data ≠ .cell v) ∧ (o.cls = .type "list_iterator" ∨ o.cls = .type "tuple_iterator") := by
  cases b with
  | true =>
    obtain ⟨o, e, hc, hd⟩ := (show h.IsListIter it a i from p)
    exact ⟨o, e, fun v q => (by rw [hd] at q; cases q), .inl hc⟩
  | false =>
    obtain ⟨o, e, hc, hd⟩ := (show h.IsTupleIter it a i from p)
    exact ⟨o, e, fun v q => (by rw [hd] at q; cases q), .inr hc⟩
theorem obB_ob {b : Bool} {h : Heap} {a : Addr} {us : Array Value} (p : ObB b h a us) : ∃ o n, h.get? a = some o ∧ (o.cls = .type "list" ∨ o.cls = .type "tuple") ∧ o.data = .seq us n := by
  cases b with
  | true =>
    obtain ⟨o, e, hc, n, hd⟩ := (show h.IsList a us from p)
    exact ⟨o, n, e, .inl hc, hd⟩
  | false =>
    obtain ⟨o, e, hc, n, hd⟩ := (show h.IsTuple a us from p)
    exact ⟨o, n, e, .inr hc, hd⟩
def ItzB (K : PySem.W.Frag) (b1 b2 : Bool) (a1 a2 : Addr) : It where
  go := fun i H => ∃ (xs ys : List V) (x y : V), SqB K H b1 a1 xs ∧ SqB K H b2 a2 ys ∧ xs[i]? = some x ∧ ys[i]? = some y
  yld := fun i H v H' => ∃ T x y, v = .ref T ∧ H T = none ∧ H' = upd H T (.tup [x, y]) ∧ (∀ xs, SqB K H b1 a1 xs → xs[i]? = some x) ∧ ∀ ys, SqB K H b2 a2 ys → ys[i]? = some y
  stop := fun i H => ∃ xs ys : List V, SqB K H b1 a1 xs ∧ SqB K H b2 a2 ys ∧ i = min xs.length ys.length
theorem sqB_inj {X : Cx} {pins : List (Addr × Obj)} {σ : L2.St} {H : Hp} {s : Shared} {b : Bool} {a : Addr} {xs ys : List V} (I : Inv X pins σ H s) (h1 : SqB X.K H b a xs) (h2 : SqB X.K H b a ys) : xs = ys := by
  cases b with
  | true => exact I.list_inj h1 h2
  | false => exact I.tuple_inj h1 h2
/-- the five cells lie one behind the other, behind a1 and a2 -/
theorem sepB {n a1 a2 : Nat} (l1 : a1 < n) (l2 : a2 < n) : ZipSep2 (n + 4) (n + 2) (n + 3) n (n + 1) [n, a1] [n + 1, a2] := by
  constructor
  all_goals try simp
  all_goals first
    | exact Nat.ne_of_lt (by omega)
    | exact Nat.ne_of_gt (by omega)
theorem turn_zipB {P : Program} {w : World} {K : PySem.W.Frag} {elts : List Expr} {kk : Nat} {tpos : Pos} {b1 b2 : Bool} {a1 a2 n : Nat} (l1 : a1 < n) (l2 : a2 < n) :
    Turn P w K (.Tuple elts kk tpos) (ItzB K b1 b2 a1 a2) [n + 4, n + 2, n + 3, n, n + 1] (n + 4) (fun i h => IsZip h (n + 4) (n + 2) (n + 3) .none ∧ IsTupOf2 h (n + 2) (.ref n) (.ref (n + 1)) ∧ (∃ x y, IsTupOf2 h (n + 3) x y) ∧ IrB b1 h n a1 i ∧ IrB b2 h (n + 1) a2 i) where
  mem := List.mem_cons_self
  obj := fun i h st c hc => by
    obtain ⟨s1, s2, ⟨x, y, s3⟩, s4, s5⟩ := st
    simp only [List.mem_cons, List.not_mem_nil, or_false] at hc
    rcases hc with rfl | rfl | rfl | rfl | rfl
    · exact ⟨_, s1, fun v q => nomatch q⟩
    · exact ⟨_, s2, fun v q => nomatch q⟩
    · exact ⟨_, s3, fun v q => nomatch q⟩
    · obtain ⟨o, e, d, _⟩ := irB_ob s4
      exact ⟨o, e, d⟩
    · obtain ⟨o, e, d, _⟩ := irB_ob s5
      exact ⟨o, e, d⟩
  keep := fun i h h' st k => by
    obtain ⟨s1, s2, ⟨x, y, s3⟩, s4, s5⟩ := st
    exact ⟨k (n + 4) (by simp) _ s1, k (n + 2) (by simp) _ s2, ⟨x, y, k (n + 3) (by simp) _ s3⟩, irB_at s4 (k n (by simp)), irB_at s5 (k (n + 1) (by simp))⟩
  item := fun X hP hw hK hc i pins s σ H E I hf st hg => by
    subst hP hw hK
    obtain ⟨s1, s2, ⟨x0, y0, s3⟩, s4, s5⟩ := st
    obtain ⟨xs, ys, x, y, q1, q2, hx, hy⟩ := hg
    obtain ⟨us, r1, o1⟩ := sqB_ob I q1
    obtain ⟨ws, r2, o2⟩ := sqB_ob I q2
    obtain ⟨u, hu, ru⟩ := r1.get hx
    obtain ⟨v, hv, rv⟩ := r2.get hy
    have z4 : n + 4 < s.heap.objs.size := Heap.lt_size s1
    have D1 := drawsB (prog := X.prog) (w := X.w) (A := X.A.in1) (I.ok.hd hc) b1 n a1 (Nat.ne_of_lt l1) us.toArray
    have D2 := drawsB (prog := X.prog) (w := X.w) (A := X.A.in1) (I.ok.hd hc) b2 (n + 1) a2 (Nat.ne_of_lt (by omega)) ws.toArray
    have hl1 : i < us.toArray.size := by simpa using (List.getElem?_eq_some_iff.mp hu).1
    have hl2 : i < ws.toArray.size := by simpa using (List.getElem?_eq_some_iff.mp hv).1
    refine wpAny_pyNext_zipD2_item (sepB l1 l2) D1 D2 s1 s2 s3 ⟨s4, o1⟩ ⟨s5, o2⟩ hl1 hl2 fun x1 x2 h' tk p1 p2 z' TO' t1 t2 hT hz hk => ?_
    have e1 : x1 = u := by
      have : us[i]? = some x1 := by simpa using p1
      rw [hu] at this
      exact (Option.some.inj this).symm
    have e2 : x2 = v := by
      have : ws[i]? = some x2 := by simpa using p2
      rw [hv] at this
      exact (Option.some.inj this).symm
    subst e1 e2
    refine ⟨_, rfl, wpAny_letOwnedTupleGo_zip (s := { s with heap := h', toks := tk }) z' fun h2 z2 sb => ?_⟩
    have up : ∀ c o, c ≠ n + 4 → h'.get? c = some o → h2.get? c = some o := fun c o hc' e => (sb.2 c hc').trans e
    have hT2 := up _ _ (Nat.ne_of_gt z4) hT
    have all : ∀ c o, c ∉ [n + 4, n + 2, n + 3, n, n + 1] → s.heap.get? c = some o → h2.get? c = some o := fun c o hc' e => by
      simp only [List.mem_cons, List.not_mem_nil, or_false, not_or] at hc'
      exact up c o hc'.1 (hk c o hc'.1 hc'.2.2.1 hc'.2.2.2.1 hc'.2.2.2.2 e)
    have J : Inv X pins σ (upd H s.heap.objs.size (.tup [x, y])) { s with heap := h2, toks := tk } :=
      I.turnedNew (ch := [n + 4, n + 2, n + 3, n, n + 1]) all hf (Nat.le_refl _) ⟨by show 2 ≤ sizeLine; decide, [x1, x2], .cons ru (.cons rv .nil), ⟨_, hT2, rfl, _, rfl⟩⟩
    refine ⟨.ref s.heap.objs.size, _, J, rfl, ⟨_, x, y, rfl, I.hok.fresh (Nat.le_refl _), rfl, fun l hl => by rw [sqB_inj I hl q1]; exact hx, fun l hl => by rw [sqB_inj I hl q2]; exact hy⟩, ⟨z2, ?_, ⟨_, _, up _ _ (Nat.ne_of_lt (by omega)) TO'⟩, ?_, ?_⟩, fun c hcm => ?_⟩
    · exact up _ _ (Nat.ne_of_lt (by omega)) (hk _ _ (Nat.ne_of_lt (by omega)) (Nat.ne_of_lt (by omega)) (Nat.ne_of_gt (by omega)) (Nat.ne_of_gt (by omega)) s2)
    · exact irB_at t1.1 fun o e => up n o (Nat.ne_of_lt (by omega)) e
    · exact irB_at t2.1 fun o e => up (n + 1) o (Nat.ne_of_lt (by omega)) e
    · have hlt : c < s.heap.objs.size := by
        simp only [List.mem_cons, List.not_mem_nil, or_false] at hcm
        rcases hcm with e | e | e | e | e <;> rw [e] <;> exact Nat.lt_of_le_of_lt (m := n + 4) (by omega) z4
      rw [upd_ne (Nat.ne_of_lt hlt)]
      exact (hf c hcm).1
  done := fun X hP hw hK hc i pins s σ H E I hf st hg => by
    subst hP hw hK
    obtain ⟨s1, s2, ⟨x0, y0, s3⟩, s4, s5⟩ := st
    obtain ⟨xs, ys, q1, q2, hi⟩ := hg
    obtain ⟨us, r1, o1⟩ := sqB_ob I q1
    obtain ⟨ws, r2, o2⟩ := sqB_ob I q2
    have D1 := drawsB (prog := X.prog) (w := X.w) (A := X.A.in1) (I.ok.hd hc) b1 n a1 (Nat.ne_of_lt l1) us.toArray
    have D2 := drawsB (prog := X.prog) (w := X.w) (A := X.A.in1) (I.ok.hd hc) b2 (n + 1) a2 (Nat.ne_of_lt (by omega)) ws.toArray
    have m1 := r1.length
    have m2 := r2.length
    have z1 : us.toArray.size = xs.length := by simp [m1]
    have z2 : ws.toArray.size = ys.length := by simp [m2]
    refine wpAny_pyNext_zipD2_end (sepB l1 l2) D1 D2 s1 s2 s3 ⟨s4, o1⟩ ⟨s5, o2⟩ (by omega) (by omega) (by omega) fun h' tk hk => ⟨rfl, I.turnedL (ch := [n + 4, n + 2, n + 3, n, n + 1]) (fun c o hc' e => ?_) hf⟩
    simp only [List.mem_cons, List.not_mem_nil, or_false, not_or] at hc'
    exact hk c o hc'.1 hc'.2.2.1 hc'.2.2.2.1 hc'.2.2.2.2 e
  self := fun A i s Q E st h => wpAny_pyIter_zip st.1 h
def iZpA (K : PySem.W.Frag) (ta : TA) : TI := fun σ H R => ta σ H fun vs H1 => ∃ b1 b2 a1 a2 xs ys, vs = [.ref a1, .ref a2] ∧ SqB K H1 b1 a1 xs ∧ SqB K H1 b2 a2 ys ∧ R (ItzB K b1 b2 a1 a2) H1
theorem pi_zpA {X : Cx} {e e2 : Expr} {ta : TA} {p pos tpos : Pos} {elts : List Expr} {kk : Nat} (hg : Gl X "zip") (hm : X.mg "zip" = none) (ha : PA X [e, e2] ta)
    (hs : starEach [e, e2] X.env = (false, eval e X.env) :: starEach [e2] X.env := by rfl) (hpl : (backTo pos (starEach [e2] X.env)).any (·.1) = false := by rfl) :
    PI X (.Tuple elts kk tpos) (.Call (.Name "zip" p) [e, e2] [] pos) (iZpA X.K ta) := by
  refine ⟨fun pins s σ H R I h => Call_ (ld_blt I hg hm PyProof.Rows.boot_zip (PyProof.Rows.callWith_type1 (thn (ha.run pos pins s σ H _ I h) fun us s1 hh => ?_) hs hpl))⟩
  obtain ⟨vs, H1, J, rr, b1, b2, a1, a2, xs, ys, rfl, q1, q2, q⟩ := hh
  cases rr with
  | @cons _ w1 _ _ ra rt =>
    cases rt with
    | @cons _ w2 _ _ rb rt =>
      cases rt
      obtain rfl : w1 = Value.ref a1 := ra
      obtain rfl : w2 = Value.ref a2 := rb
      obtain ⟨us, r1, o1⟩ := sqB_ob J q1
      obtain ⟨ws, r2, o2⟩ := sqB_ob J q2
      obtain ⟨p1, B1, g1, d1⟩ := beginsB b1 a1 us.toArray
      obtain ⟨p2, B2, g2, d2⟩ := beginsB b2 a2 ws.toArray
      obtain ⟨oo1, _, oe1, _⟩ := obB_ob o1
      obtain ⟨oo2, _, oe2, _⟩ := obB_ob o2
      have l1 : a1 < s1.heap.objs.size := Heap.lt_size oe1
      have l2 : a2 < s1.heap.objs.size := Heap.lt_size oe2
      refine zip_begins2 B1 B2 o1 o2 fun h' hz hTI hTO i1 i2 hsz hk => wpAny_pyIter_zip hz ⟨_, _, _, ItzB X.K b1 b2 a1 a2, H1, rfl, J.kept (t' := s1.toks) hk, turn_zipB l1 l2, ⟨hz, hTI, ⟨_, _, hTO⟩, g1 _ _ i1, g2 _ _ i2⟩, fun c hc => ?_, q⟩
      have hle : s1.heap.objs.size ≤ c := by
        simp only [List.mem_cons, List.not_mem_nil, or_false] at hc
        rcases hc with e | e | e | e | e <;> rw [e] <;> first
          | exact Nat.le_refl _
          | exact Nat.le_add_right _ _
      exact J.fpOk hle (J.hok.fresh hle)
section
variable {W : WX} {K : PySem.W.Frag} {c c' : Co} {S : Store} {H H' : Hp} {x y z : AV} {u v : V} {xs ys : List AV} {us vs : List V} {tA : TA} {dA : DA}
def zipd : List AV → List AV → List AV
  | x :: xs, y :: ys => .tup false [x, y] :: zipd xs ys
  | _, _ => []
theorem zipd_len : ∀ {xs ys : List AV}, (zipd xs ys).length = min xs.length ys.length
  | [], _ => by simp [zipd]
  | _ :: _, [] => by simp [zipd]
  | _ :: xs, _ :: ys => by
    show (zipd xs ys).length + 1 = _
    rw [zipd_len, List.length_cons, List.length_cons]
    omega
theorem zipd_at : ∀ {xs ys : List AV} {i : Nat} {x y : AV}, xs[i]? = some x → ys[i]? = some y → (zipd xs ys)[i]? = some (.tup false [x, y])
  | [], _, _, _, _, h, _ => by simp at h
  | _ :: _, [], _, _, _, _, h => by simp at h
  | a :: xs, b :: ys, 0, x, y, h1, h2 => by
    cases h1
    cases h2
    rfl
  | a :: xs, b :: ys, i + 1, x, y, h1, h2 => by
    have := zipd_at (xs := xs) (ys := ys) (i := i) (by simpa using h1) (by simpa using h2)
    simpa [zipd] using this
/-- a sequence that is walked, and what must stay -/
def sqGd (S : Store) : AV → Option (List AV × (Store → Bool))
  | .ref i => (stL S i).map fun xs => (xs, fun S => eqL S i xs)
  | .lst xs => some (xs, fun _ => true)
  | .tup _ xs => some (xs, fun _ => true)
  | _ => none
theorem sqGd_at {gd : Store → Bool} (hK : c.K = K) (k : Cor c S H) (r : Rel c H x v) (e : sqGd S x = some (xs, gd)) : ∃ b a, v = .ref a ∧ (∃ vs, SqB K H b a vs ∧ Rels c H xs vs) ∧ ∀ c2 S2 H2, Nxw c H c2 H2 → Cor c2 S2 H2 → gd S2 = true → ∃ vs, SqB K H2 b a vs ∧ Rels c2 H2 xs vs := by
  subst hK
  cases x with
  | ref i =>
    obtain ⟨ys, h1, h2⟩ := Option.map_eq_some_iff.mp (show ((stL S i).map fun xs => (xs, fun S => eqL S i xs)) = some (xs, gd) from e)
    cases h2
    obtain ⟨a, rfl, ht, vs, h4, rs⟩ := k.obj r (stL_eq.mp h1)
    refine ⟨true, a, rfl, ⟨vs, sq_of h4, rs⟩, fun c2 S2 H2 n k2 g => ?_⟩
    obtain ⟨us, h5, h6⟩ := k2.at_ i _ a (stL_eq.mp (eqL_iff.mp g)) (n.at ht)
    exact ⟨us, sq_of h5, h6⟩
  | lst ys =>
    cases e
    cases r with
    | @lst a _ vs h o rs => exact ⟨true, a, rfl, ⟨vs, sq_of h, rs⟩, fun c2 S2 H2 n _ _ => ⟨vs, sq_of (n.keep _ _ o h), rs.nxw n⟩⟩
  | tup p ys =>
    cases e
    cases r with
    | @tup a _ _ vs h _ rs => exact ⟨false, a, rfl, ⟨vs, h, rs⟩, fun c2 S2 H2 n _ _ => ⟨vs, by have := n.sqT h; rw [n.K] at this; exact this, rs.nxw n⟩⟩
  | _ => cases e
def itsZ (S : Store) (xs : List AV) : Option Wk := match xs with
  | [x, y] => (sqGd S x).bind fun p => (sqGd S y).map fun q => ⟨zipd p.1 q.1, fun S => p.2 S && q.2 S⟩
  | _ => none
def diZip (dA : DA) : DI := fun ρ S => (dA ρ S).bind fun xs S1 => ofO (itsZ S1 xs) S1
theorem si_zip (ha : SA W K tA dA) : SI W K (iZpA K tA) (diZip dA) := by
  intro ρ S c σ H R hK k e h
  refine ha ρ S c σ H _ hK k e (Res.post_mono (Res.post_bind.mp h) (fun xs S1 h1 => ?_) fun _ _ z => z)
  intro c1 H1 us n1 k1 rs
  obtain ⟨its, hi, g⟩ := ofO_post h1
  have hK1 := n1.K.trans hK
  unfold itsZ at hi
  split at hi
  · obtain ⟨⟨ps, gp⟩, h2, hi⟩ := Option.bind_eq_some_iff.mp hi
    obtain ⟨⟨qs, gq⟩, h3, hi⟩ := Option.map_eq_some_iff.mp hi
    subst hi
    cases rs with
    | cons r1 rs =>
      cases rs with
      | cons r2 rs =>
        cases rs
        obtain ⟨b1, a1, rfl, ⟨vs1, q1, rs1⟩, f1⟩ := sqGd_at hK1 k1 r1 h2
        obtain ⟨b2, a2, rfl, ⟨vs2, q2, rs2⟩, f2⟩ := sqGd_at hK1 k1 r2 h3
        refine ⟨b1, b2, a1, a2, vs1, vs2, rfl, q1, q2, g c1 H1 _ n1 k1 ⟨fun H => ∃ us ws, SqB K H b1 a1 us ∧ SqB K H b2 a2 ws ∧ us.length = ps.length ∧ ws.length = qs.length,
          fun i H v H' => (ItzB K b1 b2 a1 a2).yld i H v H', ⟨fun i H hi q => ?_, fun H q => ?_, fun i H x H' hi q y => y⟩, fun c S H n k gd => ?_, fun i x H H' c S hi n k gd y => ?_⟩⟩
        · obtain ⟨us, ws, z1, z2, z3, z4⟩ := q
          have hi : i < (zipd ps qs).length := hi
          rw [zipd_len] at hi
          exact ⟨us, ws, us[i]'(by omega), ws[i]'(by omega), z1, z2, List.getElem?_eq_getElem _, List.getElem?_eq_getElem _⟩
        · obtain ⟨us, ws, z1, z2, z3, z4⟩ := q
          exact ⟨us, ws, z1, z2, by rw [z3, z4]; exact zipd_len⟩
        · obtain ⟨us, z1, w1⟩ := f1 c S H n k (Bool.and_eq_true_iff.mp gd).1
          obtain ⟨ws, z2, w2⟩ := f2 c S H n k (Bool.and_eq_true_iff.mp gd).2
          exact ⟨us, ws, z1, z2, w1.len.symm, w2.len.symm⟩
        · obtain ⟨T, p, q, rfl, hT, rfl, y1, y2⟩ := y
          obtain ⟨us, z1, w1⟩ := f1 c S H n k (Bool.and_eq_true_iff.mp gd).1
          obtain ⟨ws, z2, w2⟩ := f2 c S H n k (Bool.and_eq_true_iff.mp gd).2
          obtain ⟨p', hp, rp⟩ := w1.at' (y1 us z1)
          obtain ⟨q', hq, rq⟩ := w2.at' (y2 ws z2)
          exact ⟨_, zipd_at hp hq, Nxt.new hT, k.new hT, new_tup hT (.cons rp (.cons rq .nil))⟩
  · cases hi
end
end Dl
set_option Elab.async false
set_option linter.all false
set_option maxRecDepth 100000
set_option maxHeartbeats 4000000
namespace Dl
open PySem PySem.Spec PyProof.Rows L2 Evl Cm
/-! ### values that name nothing of the store's end -/
mutual
def AV.lt (n : Nat) : AV → Bool
  | .non | .bl _ | .int _ | .str _ | .opq _ => true
  | .tup _ xs | .lst xs => ltA n xs
  | .dic ks => ltK n ks
  | .obj _ fs | .exc _ fs => ltF n fs
  | .ref i => decide (i < n)
def ltA (n : Nat) : List AV → Bool
  | [] => true
  | x :: xs => x.lt n && ltA n xs
def ltK (n : Nat) : List (AV × AV) → Bool
  | [] => true
  | (k, x) :: xs => k.lt n && (x.lt n && ltK n xs)
def ltF (n : Nat) : List (Str × AV) → Bool
  | [] => true
  | (_, x) :: xs => x.lt n && ltF n xs
end
def AO.lt (n : Nat) : AO → Bool
  | .lst xs => ltA n xs
  | .dic ks => ltK n ks
  | .obj _ fs => ltF n fs
  | .nod _ => true
  | .lkd ks => ltK n ks
def Co.cut (c : Co) (n : Nat) : Co := { c with tr := c.tr.take n }
section
variable {c c' : Co} {S : Store} {H H' : Hp} {x y z : AV} {u v : V} {xs ys : List AV} {us vs : List V} {n : Nat}
theorem Co.cut_out {a : Addr} (h : c.Out a) : (c.cut n).Out a := ⟨fun z => h.1 (List.mem_of_mem_take z), h.2⟩
mutual
theorem Rel.trim : ∀ {x : AV} {v : V}, Rel c H x v → x.lt n = true → Rel (c.cut n) H x v
  | _, _, .non, _ => .non
  | _, _, .bl b, _ => .bl b
  | _, _, .int i, _ => .int i
  | _, _, .opq a, _ => .opq a
  | _, _, .str h, _ => .str h
  | _, _, .tup h hp r, e => .tup h hp (Rels.trim r (by simpa [AV.lt] using e))
  | _, _, .lst h o r, e => .lst h (Co.cut_out o) (Rels.trim r (by simpa [AV.lt] using e))
  | _, _, .dic h o r, e => .dic h (Co.cut_out o) (Relk.trim r (by simpa [AV.lt] using e))
  | _, _, .obj h o r, e => .obj h (Co.cut_out o) (Relf.trim r (by simpa [AV.lt] using e))
  | _, _, .exc h r, e => .exc h (Relx.trim r (by simpa [AV.lt] using e))
  | _, _, .ref h, e => .ref (by
    have e' := of_decide_eq_true (by simpa only [AV.lt] using e)
    show (c.tr.take n)[_]? = _
    rw [List.getElem?_take_of_lt e']
    exact h)
theorem Rels.trim : ∀ {xs : List AV} {vs : List V}, Rels c H xs vs → ltA n xs = true → Rels (c.cut n) H xs vs
  | _, _, .nil, _ => .nil
  | _, _, .cons r t, e => by
    have e' := Bool.and_eq_true_iff.mp (by simpa only [ltA] using e)
    exact .cons (Rel.trim r e'.1) (Rels.trim t e'.2)
theorem Relk.trim : ∀ {xs : List (AV × AV)} {vs : List (Key × V)}, Relk c H xs vs → ltK n xs = true → Relk (c.cut n) H xs vs
  | _, _, .nil, _ => .nil
  | _, _, .cons k r t, e => by
    have e' := Bool.and_eq_true_iff.mp (by simpa only [ltK] using e)
    have e2 := Bool.and_eq_true_iff.mp e'.2
    exact .cons (Rel.trim k e'.1) (Rel.trim r e2.1) (Relk.trim t e2.2)
theorem Relf.trim : ∀ {xs : List (Str × AV)} {vs : List (Str × V)}, Relf c H xs vs → ltF n xs = true → Relf (c.cut n) H xs vs
  | _, _, .nil, _ => .nil
  | _, _, .cons r t, e => by
    have e' := Bool.and_eq_true_iff.mp (by simpa only [ltF] using e)
    exact .cons (Rel.trim r e'.1) (Relf.trim t e'.2)
theorem Relx.trim : ∀ {fs : List (Str × AV)} {d : Option Addr}, Relx c H fs d → ltF n fs = true → Relx (c.cut n) H fs d
  | _, _, .nil, _ => .nil
  | _, _, .some h o r, e => .some h (Co.cut_out o) (Relf.trim r e)
end
mutual
theorem Rel.isLt : ∀ {x : AV} {v : V}, Rel c H x v → x.lt c.tr.length = true
  | _, _, .non => by simp [AV.lt]
  | _, _, .bl b => by simp [AV.lt]
  | _, _, .int i => by simp [AV.lt]
  | _, _, .opq a => by simp [AV.lt]
  | _, _, .str h => by simp [AV.lt]
  | _, _, .tup h _ r => by simpa [AV.lt] using Rels.isLt r
  | _, _, .lst h o r => by simpa [AV.lt] using Rels.isLt r
  | _, _, .dic h o r => by simpa [AV.lt] using Relk.isLt r
  | _, _, .obj h o r => by simpa [AV.lt] using Relf.isLt r
  | _, _, .exc h r => by simpa [AV.lt] using Relx.isLt r
  | _, _, .ref h => by
    simp only [AV.lt, decide_eq_true_eq]
    exact (List.getElem?_eq_some_iff.mp h).1
theorem Rels.isLt : ∀ {xs : List AV} {vs : List V}, Rels c H xs vs → ltA c.tr.length xs = true
  | _, _, .nil => by simp [ltA]
  | _, _, .cons r t => by simp [ltA, Rel.isLt r, Rels.isLt t]
theorem Relk.isLt : ∀ {xs : List (AV × AV)} {vs : List (Key × V)}, Relk c H xs vs → ltK c.tr.length xs = true
  | _, _, .nil => by simp [ltK]
  | _, _, .cons k r t => by simp [ltK, Rel.isLt k, Rel.isLt r, Relk.isLt t]
theorem Relf.isLt : ∀ {xs : List (Str × AV)} {vs : List (Str × V)}, Relf c H xs vs → ltF c.tr.length xs = true
  | _, _, .nil => by simp [ltF]
  | _, _, .cons r t => by simp [ltF, Rel.isLt r, Relf.isLt t]
theorem Relx.isLt : ∀ {fs : List (Str × AV)} {d : Option Addr}, Relx c H fs d → ltF c.tr.length fs = true
  | _, _, .nil => by simp [ltF]
  | _, _, .some h o r => Relf.isLt r
end
theorem RelO.isLt {a : Addr} {o : AO} (r : RelO c H a o) : o.lt c.tr.length = true := by
  cases o with
  | lst xs =>
    obtain ⟨_, _, r⟩ := r
    exact r.isLt
  | dic xs =>
    obtain ⟨_, _, r⟩ := r
    exact r.isLt
  | obj m xs =>
    obtain ⟨_, _, _, r⟩ := r
    exact r.isLt
  | nod xs => rfl
  | lkd xs =>
    obtain ⟨_, _, _, r⟩ := r
    exact r.isLt
theorem RelO.trim {a : Addr} {o : AO} (r : RelO c H a o) (h : o.lt n = true) : RelO (c.cut n) H a o := by
  cases o with
  | lst xs =>
    obtain ⟨vs, h1, r⟩ := r
    exact ⟨vs, h1, r.trim h⟩
  | dic xs =>
    obtain ⟨vs, h1, r⟩ := r
    exact ⟨vs, h1, r.trim h⟩
  | obj m xs =>
    obtain ⟨dx, vs, h1, r⟩ := r
    exact ⟨dx, vs, h1, r.trim h⟩
  | nod xs => exact r
  | lkd xs =>
    obtain ⟨od, vs, h1, r⟩ := r
    exact ⟨od, vs, h1, r.trim h⟩
/-- the store's end is forgotten -/
theorem Cor.cut {T G : Store} (k : Cor c (T ++ G) H) (h : ∀ o ∈ T, o.lt T.length = true) : Cor (c.cut T.length) T H := by
  have hl := k.len
  rw [List.length_append] at hl
  refine ⟨?_, List.Nodup.sublist (List.take_sublist _ _) k.nd, fun a ha => k.apart a (List.mem_of_mem_take ha), k.hl, fun i o a e1 e2 => ?_⟩
  · show T.length = (c.tr.take T.length).length
    rw [List.length_take]
    omega
  · have hi := (List.getElem?_eq_some_iff.mp e1).1
    have e2' : c.tr[i]? = some a := by
      have : (c.tr.take T.length)[i]? = some a := e2
      rw [List.getElem?_take_of_lt hi] at this
      exact this
    exact (k.at_ i o a (by rw [List.getElem?_append_left hi]; exact e1) e2').trim (h o (List.mem_of_getElem? e1))
/-! ### what was of the store's end never changes any more -/
def fz (T : Store) (n : Nat) : Nat → AV → AV
  | 0, x => x
  | k + 1, .ref j => if j < n then .ref j else match T[j]? with
    | some (.lst xs) => .lst (xs.map (fz T n k))
    | some (.dic ks) => .dic (ks.map fun p => (fz T n k p.1, fz T n k p.2))
    | some (.obj m fs) => .obj m (fs.map fun p => (p.1, fz T n k p.2))
    | _ => .ref j
  | k + 1, .tup p xs => .tup p (xs.map (fz T n k))
  | k + 1, .lst xs => .lst (xs.map (fz T n k))
  | _ + 1, x => x
theorem Rels.mapA {f : AV → AV} (h : ∀ x v, Rel c H x v → (f x).lt n = true → Rel c' H (f x) v) : ∀ {xs : List AV} {vs : List V}, Rels c H xs vs → ltA n (xs.map f) = true → Rels c' H (xs.map f) vs
  | _, _, .nil, _ => .nil
  | _, _, .cons r t, e => by
    have e' := Bool.and_eq_true_iff.mp (by simpa only [List.map_cons, ltA] using e)
    exact .cons (h _ _ r e'.1) (Rels.mapA h t e'.2)
theorem Relf.mapA {f : AV → AV} (h : ∀ x v, Rel c H x v → (f x).lt n = true → Rel c' H (f x) v) : ∀ {xs : List (Str × AV)} {vs : List (Str × V)}, Relf c H xs vs → ltF n (xs.map fun p => (p.1, f p.2)) = true → Relf c' H (xs.map fun p => (p.1, f p.2)) vs
  | _, _, .nil, _ => .nil
  | _, _, .cons r t, e => by
    have e' := Bool.and_eq_true_iff.mp (by simpa only [List.map_cons, ltF] using e)
    exact .cons (h _ _ r e'.1) (Relf.mapA h t e'.2)
theorem Relk.mapA {f : AV → AV} (h : ∀ x v, Rel c H x v → (f x).lt n = true → Rel c' H (f x) v) : ∀ {xs : List (AV × AV)} {vs : List (Key × V)}, Relk c H xs vs → ltK n (xs.map fun p => (f p.1, f p.2)) = true → Relk c' H (xs.map fun p => (f p.1, f p.2)) vs
  | _, _, .nil, _ => .nil
  | _, _, .cons k r t, e => by
    have e' := Bool.and_eq_true_iff.mp (by simpa only [List.map_cons, ltK] using e)
    have e2 := Bool.and_eq_true_iff.mp e'.2
    exact .cons (h _ _ k e'.1) (h _ _ r e2.1) (Relk.mapA h t e2.2)
theorem cut_new (k : Cor c S H) {j : Nat} {a : Addr} (hj : ¬ j < n) (h : c.tr[j]? = some a) : (c.cut n).Out a := by
  refine ⟨fun z => ?_, k.apart a (List.mem_of_getElem? h)⟩
  obtain ⟨i, hi, e⟩ := List.getElem_of_mem (show a ∈ c.tr.take n from z)
  have hi' : i < n := by
    rw [List.length_take] at hi
    omega
  have e1 : c.tr[i]? = some a := by
    rw [← List.getElem?_take_of_lt hi', List.getElem?_eq_getElem hi, e]
  have : i = j := (List.getElem?_inj (List.getElem?_eq_some_iff.mp e1).1 k.nd).mp (by rw [e1, h])
  omega
theorem Rel.fz (k : Cor c S H) : ∀ (m : Nat) {x : AV} {v : V}, Rel c H x v → (Dl.fz S n m x).lt n = true → Rel (c.cut n) H (Dl.fz S n m x) v
  | 0, x, v, r, e => r.trim e
  | m + 1, x, v, r, e => by
    have ih := fun x v (r : Rel c H x v) => Rel.fz k m r
    cases x with
    | tup p xs =>
      cases r with
      | tup h hp r => exact .tup h hp (Rels.mapA ih r (by simpa only [Dl.fz, AV.lt] using e))
    | lst xs =>
      cases r with
      | lst h o r => exact .lst h (Co.cut_out o) (Rels.mapA ih r (by simpa only [Dl.fz, AV.lt] using e))
    | ref j =>
      unfold Dl.fz at e ⊢
      by_cases hj : j < n
      · rw [if_pos hj] at e ⊢
        exact r.trim e
      · rw [if_neg hj] at e ⊢
        cases r with
        | @ref _ a h =>
          obtain ⟨o, ho, ro⟩ := k.there h
          rw [ho] at e ⊢
          cases o with
          | lst ys =>
            obtain ⟨vs, h1, r1⟩ := ro
            exact .lst h1 (cut_new k hj h) (Rels.mapA ih r1 (by simpa only [AV.lt] using e))
          | dic ys =>
            obtain ⟨vs, h1, r1⟩ := ro
            exact .dic h1 (cut_new k hj h) (Relk.mapA ih r1 (by simpa only [AV.lt] using e))
          | obj m' ys =>
            obtain ⟨dx, vs, h1, r1⟩ := ro
            exact .obj h1 (cut_new k hj h) (Relf.mapA ih r1 (by simpa only [AV.lt] using e))
          | lkd ys => exact absurd (of_decide_eq_true (by simpa only [AV.lt] using e)) hj
          | nod ys => exact absurd (of_decide_eq_true (by simpa only [AV.lt] using e)) hj
    | _ => exact r.trim e
end
/-! ### what a def promises -/
abbrev FD := List AV → Store → Res AV
/-- the promise F of a def of n parameters, over the heap -/
def conc (K : PySem.W.Frag) (n : Nat) (F : FD) : Sp := fun vs H Q E => ∃ (c : Co) (S : Store) (avs : List AV), c.K = K ∧ Cor c S H ∧ Rels c H avs vs ∧ avs.length = n ∧ (F avs S).post (Good c H Q) (Fall c H E)
def envOf (n : Nat) (avs : List AV) : Env := avs.map some ++ List.replicate (n - avs.length) none
theorem env_start {c : Co} {H : Hp} {avs : List AV} {vs : List V} {N : List Str} (r : Rels c H avs vs) : EnvR c H (envOf N.length avs) (L2.start N vs) := by
  have hl := r.len
  refine ⟨by simp [envOf, L2.start, hl], fun i x e => ?_⟩
  unfold envOf at e
  unfold L2.start
  by_cases hi : i < avs.length
  · rw [List.getElem?_append_left (by simpa using hi), List.getElem?_map] at e
    cases q : avs[i]? with
    | none =>
      rw [q] at e
      cases e
    | some y =>
      rw [q] at e
      cases e
      obtain ⟨v, h1, h2⟩ := r.at q
      exact ⟨v, by rw [List.getElem?_append_left (by simp; omega), List.getElem?_map, h1]; rfl, h2⟩
  · rw [List.getElem?_append_right (by simpa using hi), List.getElem?_replicate] at e
    split at e <;> cases e
/-- a body's end as an answer -/
def RS.toRes (r : RS) : Res AV := match r with
  | .go (.nx _) S => .ok .non S
  | .go (.rt v) S => .ok v S
  | .go (.xc _ e) S => .exc e S
  | _ => .bad
def runD (ds : DS) (n : Nat) : FD := fun avs S => (ds (envOf n avs) S).toRes
/-- the wish about exceptions as a body has it -/
abbrev WO (E : XK) : WX := fun cls d _ H => E cls d H
section
variable {P : Program} {w : World} {K : PySem.W.Frag} {mg : Str → Option Value} {base : Heap} {x qual : Str} {params : Arguments} {body : List Stmt} {scope : Scope} {dvs : List V} {kws : List (Str × V)} {f : Addr} {fd : FuncData}
/-- a def by its body -/
theorem fn_den {N ps : List Str} {k : Nat} {ds : DS} (F : FunD K x qual params body scope dvs kws f fd) (S : FnScope N ps scope)
    (hb : ∀ (cdv : Value) (A : Around) (outer : List PySem.Env) (s : Shared) (H : Hp) (E : XK), Room k (A.deeper (envOfC qual scope s.heap.objs.size f cdv)) →
      ∃ t, PSs (cxOf (L2.CX P w) P w K mg base N qual scope f cdv A outer s H E) body t ∧ SS (WO E) K t ds) :
    FnOk P w K mg base (L2.CX P w) (k + 1) f fd ps (conc K ps.length (runD ds N.length)) := by
  refine F.ok S (fun vs H Q E h => ?_) (fun cdv A outer s H vs Q E hr h => ?_)
  · obtain ⟨c, T, avs, _, _, r, hl, _⟩ := h
    rw [← r.len, hl]
  · obtain ⟨c, T, avs, hK, cor, r, hl, hp⟩ := h
    obtain ⟨t, ht, sn⟩ := hb cdv A outer s H E hr
    refine ⟨t, ht, sn (envOf N.length avs) T c _ H _ hK cor (env_start r) ?_⟩
    unfold runD at hp
    cases q : ds (envOf N.length avs) T with
    | bad =>
      rw [q] at hp
      exact False.elim hp
    | go fl T' =>
      rw [q] at hp
      cases fl with
      | nx ρ => exact fun c' H' σ n k e => (show Good c H Q .non T' from hp) c' H' .non n k .non
      | rt v => exact hp
      | bk ρ => exact False.elim hp
      | ct ρ => exact False.elim hp
      | xc ρ e => exact fun c' H' σ cls d n k _ re => (show Fall c H E e T' from hp) c' H' cls d n k re
end
/-- what may be promised instead: nothing; the same; the same with the store's end forgotten -/
inductive Wkr (S : Store) : Res AV → Res AV → Prop
  | bad {r : Res AV} : Wkr S .bad r
  | same {r : Res AV} : Wkr S r r
  | ok {v : AV} {T G : Store} (m : Nat) : T.length = S.length → (∀ (i : Nat) (o : AO), T[i]? = some o → S[i]? = some o ∨ o.lt S.length = true) → (fz (T ++ G) S.length m v).lt S.length = true → Wkr S (.ok (fz (T ++ G) S.length m v) T) (.ok v (T ++ G))
  | exc {c : Str} {fs : List (Str × AV)} {T G : Store} : T.length = S.length → (∀ (i : Nat) (o : AO), T[i]? = some o → S[i]? = some o ∨ o.lt S.length = true) → ltF S.length fs = true → Wkr S (.exc (.exc c fs) T) (.exc (.exc c fs) (T ++ G))
theorem wkr_nxt {c c' : Co} {H H' : Hp} {S T G : Store} (k0 : Cor c S H) (n : Nxt c H c' H') (k : Cor c' (T ++ G) H') (hl : T.length = S.length) (ho : ∀ (i : Nat) (o : AO), T[i]? = some o → S[i]? = some o ∨ o.lt S.length = true) :
    Nxt c H (c'.cut S.length) H' ∧ Cor (c'.cut S.length) T H' := by
  obtain ⟨l, e, hn⟩ := n.tr
  have etr : (c'.cut S.length).tr = c.tr := by
    show c'.tr.take S.length = c.tr
    rw [e, k0.len, List.take_left]
  refine ⟨⟨n.K, n.ex, n.hid, ⟨[], by rw [etr]; simp, fun _ h => absurd h List.not_mem_nil⟩, n.keep, n.hkeep, n.tup, n.frz, n.live⟩, ?_⟩
  rw [← hl]
  refine k.cut fun o hm => ?_
  obtain ⟨i, hi, e⟩ := List.getElem_of_mem hm
  have e1 : T[i]? = some o := by rw [List.getElem?_eq_getElem hi, e]
  rcases ho i o e1 with h | h
  · have hi' : i < c.tr.length := by
      rw [← k0.len, ← hl]
      exact hi
    have := (k0.at_ i o _ h (List.getElem?_eq_getElem hi')).isLt
    rw [← k0.len, ← hl] at this
    exact this
  · rw [hl]
    exact h
theorem conc_imp {K : PySem.W.Frag} {n : Nat} {F F' : FD} (h : ∀ avs S, avs.length = n → Wkr S (F' avs S) (F avs S)) : ∀ vs H Q E, conc K n F' vs H Q E → conc K n F vs H Q E := by
  rintro vs H Q E ⟨c, S, avs, hK, k, r, hl, hp⟩
  refine ⟨c, S, avs, hK, k, r, hl, ?_⟩
  have hw := h avs S hl
  generalize F' avs S = r' at hp hw
  generalize F avs S = r0 at hw
  cases hw with
  | bad => exact False.elim hp
  | same => exact hp
  | ok m e1 e2 e3 =>
    intro c' H' v n k' rv
    obtain ⟨n2, k2⟩ := wkr_nxt k n k' e1 e2
    exact hp (c'.cut S.length) H' v n2 k2 (rv.fz k' m e3)
  | exc e1 e2 e3 =>
    intro c' H' cls d n k' rv
    obtain ⟨n2, k2⟩ := wkr_nxt k n k' e1 e2
    exact hp (c'.cut S.length) H' cls d n2 k2 ⟨rv.1, rv.2.trim e3⟩
theorem fn_weak {P : Program} {w : World} {K : PySem.W.Frag} {mg : Str → Option Value} {base : Heap} {CX : CXT} {k : Nat} {f : Addr} {fd : FuncData} {ps : List Str} {F F' : FD} (G : FnOk P w K mg base CX k f fd ps (conc K ps.length F))
    (h : ∀ avs S, avs.length = ps.length → Wkr S (F' avs S) (F avs S)) : FnOk P w K mg base CX k f fd ps (conc K ps.length F') := G.imp (conc_imp h)
/-! ### calls -/
section
variable {W : WX} {K : PySem.W.Frag} {tA : TA} {dA : DA} {ta : TE} {da : DE}
def dCall (n : Nat) (F : FD) (dA : DA) : DE := fun ρ S => (dA ρ S).bind fun avs S1 => if avs.length = n then F avs S1 else .bad
theorem se_call {n : Nat} {F : FD} (ha : SA W K tA dA) : SE W K (tCallS (conc K n F) (WE W) tA) (dCall n F dA) := by
  intro ρ S c σ H Q hK k e h
  refine ha ρ S c σ H _ hK k e (Res.post_mono (Res.post_bind.mp h) (fun avs S1 h1 => ?_) fun _ _ z => z)
  intro c1 H1 vs n1 k1 rs
  split at h1
  next hl => exact ⟨c1, S1, avs, n1.K.trans hK, k1, rs, hl, Res.post_mono h1 (fun _ _ g => g.nxt n1) fun _ _ g => g.nxt n1⟩
  next => exact False.elim h1
/-- o.m(..) -/
def tMS (C : Addr) (m : Str) (sp : Sp) (E : L2.St → XK) (ta : TE) (t : TA) : TE := fun σ H Q => ta σ H fun x H1 => ∃ a dx fs, x = .ref a ∧ H1 a = some (.ins C dx fs) ∧ fs.lookup m = none ∧ t σ H1 fun vs H2 => sp (x :: vs) H2 Q (E σ)
theorem pe_mS {X : Cx} {CX : CXT} {k : Nat} {f C : Addr} {fd : FuncData} {ps : List Str} {sp : Sp} {E : L2.St → XK} {m : Str} {pos apos : Pos} {e o : Expr} {es : List Expr} {ta : TE} {t : TA} {pl : Sem Bool} (he : PE X o ta) (c : Cls X.K C) (hm : Meth X.K C m f) (F : FnOk X.prog X.w X.K X.mg X.base CX k f fd ps sp) (hr : Room k X.A) (hb : Binds X.K fd ps []) (hx : ∀ σ, PassesAt CX X σ (E σ)) (ha : PA X (e :: es) t)
    (hst : starEach (e :: es) X.env = (false, eval e X.env) :: starEach es X.env := by rfl) (hpl : (backTo pos (starEach es X.env)).any (·.1) = false := by rfl)
    (ht : eval (.Call (.Attribute o m apos) (e :: es) [] pos) X.env = (do let ov ← eval o X.env; standAt apos.atName; let (f, first) ← holding [ov] (getMethod ov m pl); callWith pos f first (backTo pos (starEach (e :: es) X.env)) (backToKw pos (keywordEach [] X.env))) := by rfl) :
    PE X (.Call (.Attribute o m apos) (e :: es) [] pos) (tMS C m sp E ta t) := by
  refine ⟨fun pins s σ H Q I h => PySem.W.methodCall_KW (pl := pl) (thn (he.run pins s σ H _ I h) fun u s1 hh => ?_) ht⟩
  obtain ⟨x, H1, J, rx, a, dx, fs, rfl, ea, l, q⟩ := hh
  obtain rfl : u = Value.ref a := rx
  refine getmeth_ok J ea c hm l (PySem.W.callWith_K (first := [.ref a]) (h₀ := X.base) J.ok.mod.kin hm.kp (thn (ha.run pos pins s1 σ H1 _ J q) fun us s2 hh => ?_) hst hpl)
  obtain ⟨vs, H2, J2, rr, q2⟩ := hh
  exact ⟨J2.kIn, run_fnS (us := .ref a :: us) (vs := .ref a :: vs) F hr hb (hx σ) J2 (.cons rfl rr) q2⟩
theorem pe_mS0 {X : Cx} {CX : CXT} {k : Nat} {f C : Addr} {fd : FuncData} {ps : List Str} {sp : Sp} {E : L2.St → XK} {m : Str} {pos apos : Pos} {o : Expr} {ta : TE} {pl : Sem Bool} (he : PE X o ta) (c : Cls X.K C) (hm : Meth X.K C m f) (F : FnOk X.prog X.w X.K X.mg X.base CX k f fd ps sp) (hr : Room k X.A) (hb : Binds X.K fd ps []) (hx : ∀ σ, PassesAt CX X σ (E σ))
    (ht : eval (.Call (.Attribute o m apos) [] [] pos) X.env = (do let ov ← eval o X.env; standAt apos.atName; let (f, first) ← holding [ov] (getMethod ov m pl); callWith pos f first (backTo pos (starEach [] X.env)) (backToKw pos (keywordEach [] X.env))) := by rfl) :
    PE X (.Call (.Attribute o m apos) [] [] pos) (tMS C m sp E ta tNil) := by
  refine ⟨fun pins s σ H Q I h => PySem.W.methodCall_KW (pl := pl) (thn (he.run pins s σ H _ I h) fun u s1 hh => ?_) ht⟩
  obtain ⟨x, H1, J, rx, a, dx, fs, rfl, ea, l, q⟩ := hh
  obtain rfl : u = Value.ref a := rx
  exact getmeth_ok J ea c hm l (PySem.W.callWith_K0 (first := [.ref a]) J.kIn hm.kp (run_fnS (us := [.ref a]) (vs := [.ref a]) F hr hb (hx σ) J (.cons rfl .nil) q))
def dMeth (C m : Str) (n : Nat) (F : FD) (da : DE) (dA : DA) : DE := fun ρ S => (da ρ S).bind fun x S1 => match fsOf S1 x with
  | some (cn, fs) => if cn = C ∧ fs.lookup m = none then (dA ρ S1).bind fun avs S2 => if avs.length + 1 = n then F (x :: avs) S2 else .bad else .bad
  | none => .bad
theorem Relf.lookN {c : Co} {H : Hp} {f : Str} : ∀ {fs : List (Str × AV)} {gs : List (Str × V)}, Relf c H fs gs → fs.lookup f = none → gs.lookup f = none
  | _, _, .nil, _ => rfl
  | _, _, .cons (f := g) r t, e => by
    rw [List.lookup_cons] at e ⊢
    cases q : (f == g) with
    | true =>
      rw [q] at e
      cases e
    | false =>
      rw [q] at e
      exact Relf.lookN t e
theorem se_meth {C m : Str} {n : Nat} {F : FD} (ha : SE W K ta da) (hA : SA W K tA dA) : SE W K (tMS (He.ga K C) m (conc K n F) (WE W) ta tA) (dMeth C m n F da dA) := by
  intro ρ S c σ H Q hK k e h
  refine ha ρ S c σ H _ hK k e (Res.post_mono (Res.post_bind.mp h) (fun x S1 h1 => ?_) fun _ _ z => z)
  intro c1 H1 u n1 k1 r1
  cases q : fsOf S1 x with
  | none =>
    rw [q] at h1
    exact False.elim h1
  | some p =>
    obtain ⟨cn, fs⟩ := p
    rw [q] at h1
    simp only at h1
    split at h1
    next hc =>
      obtain ⟨rfl, hl⟩ := hc
      obtain ⟨a, dx, gs, rfl, h2, rf⟩ := fsOf_at k1 r1 q
      have hK1 := n1.K.trans hK
      rw [hK1] at h2
      refine ⟨a, dx, gs, rfl, h2, rf.lookN hl, hA ρ S1 c1 σ H1 _ hK1 k1 (e.nxt n1) (Res.post_mono (Res.post_bind.mp h1) (fun avs S2 g => ?_) fun _ _ z => z.nxt n1)⟩
      intro c2 H2 vs n2 k2 rs
      have n12 := n1.trans n2
      split at g
      next hn => exact ⟨c2, S2, x :: avs, n12.K.trans hK, k2, .cons (r1.nxt n2) rs, hn, Res.post_mono g (fun _ _ g => g.nxt n12) fun _ _ g => g.nxt n12⟩
      next => exact False.elim g
    next => exact False.elim h1
/-- where nothing may be raised -/
theorem pass_no {X : Cx} (σ : L2.St) : PassesAt (L2.CX X.prog X.w) X σ (WE W0 σ) := fun _ _ _ _ _ _ z => by
  obtain ⟨_, _, _, _, _, _, _, _, _, _, _, _, z⟩ := z
  exact False.elim z
end
end Dl
set_option Elab.async false
set_option linter.all false
set_option maxRecDepth 100000
set_option maxHeartbeats 4000000
namespace Dl
open PySem PySem.Spec PyProof.Rows L2 Evl Cm
/-! ### methods of built-in types -/
abbrev MF := AV → List AV → Store → Option (AV × Store)
/-- of that built-in type -/
def tyA (T : String) (x : AV) (S : Store) : Bool := match x with
  | .str _ => decide (T = "str")
  | .lst _ => decide (T = "list")
  | .dic _ => decide (T = "dict")
  | .ref i => match S[i]? with
    | some (.lst _) => decide (T = "list")
    | some (.dic _) => decide (T = "dict")
    | _ => false
  | _ => false
section
variable {W : WX} {K : PySem.W.Frag} {c c' : Co} {S : Store} {H H' : Hp} {x y z : AV} {u v : V} {xs ys : List AV} {us vs : List V} {te ta : TE} {da de : DE} {tA : TA} {dA : DA} {T : String}
theorem tyA_at (hK : c.K = K) (k : Cor c S H) (r : Rel c H x u) (h : tyA T x S = true) : tyV K T u H := by
  cases x with
  | str z =>
    cases r
    show T = "str"
    exact of_decide_eq_true (show decide (T = "str") = true from h)
  | lst xs =>
    cases r with
    | lst h1 _ _ => exact .inl ⟨of_decide_eq_true h, _, sq_of h1⟩
  | dic xs =>
    cases r with
    | dic h1 _ _ => exact .inr (.inr (.inl ⟨of_decide_eq_true h, .inl ⟨_, h1⟩⟩))
  | ref i =>
    have h : (match S[i]? with
      | some (.lst _) => decide (T = "list")
      | some (.dic _) => decide (T = "dict")
      | _ => false) = true := h
    cases r with
    | @ref _ a h2 =>
      obtain ⟨o, e, ro⟩ := k.there h2
      rw [e] at h
      cases o with
      | lst xs =>
        obtain ⟨vs, h1, _⟩ := ro
        exact .inl ⟨of_decide_eq_true h, _, sq_of h1⟩
      | dic xs =>
        obtain ⟨vs, h1, _⟩ := ro
        exact .inr (.inr (.inl ⟨of_decide_eq_true h, .inl ⟨_, h1⟩⟩))
      | obj _ _ => cases h
      | nod _ => cases h
      | lkd _ => cases h
  | _ => cases h
/-- a method's reading does as f says -/
def SM (K : PySem.W.Frag) (r : V → List V → Hp → VK → Prop) (f : MF) : Prop := ∀ (x : AV) (xs : List AV) (y : AV) (S S' : Store) (c : Co) (u : V) (us : List V) (H : Hp) (Q : VK), c.K = K → Cor c S H → Rel c H x u → Rels c H xs us →
  f x xs S = some (y, S') → Good c H Q y S' → r u us H Q
def dBM (T : String) (f : MF) (dx : DE) (dA : DA) : DE := fun ρ S => (dx ρ S).bind fun x S1 => if tyA T x S1 = true then (dA ρ S1).bind fun as S2 => match f x as S2 with
  | some (y, S3) => .ok y S3
  | none => .bad else .bad
theorem se_bm {r : V → List V → Hp → VK → Prop} {f : MF} (ha : SE W K ta da) (hA : SA W K tA dA) (hm : SM K r f) : SE W K (tBM K T r ta tA) (dBM T f da dA) := by
  intro ρ S c σ H Q hK k e h
  refine ha ρ S c σ H _ hK k e (Res.post_mono (Res.post_bind.mp h) (fun x S1 h1 => ?_) fun _ _ z => z)
  intro c1 H1 u n1 k1 r1
  have hK1 := n1.K.trans hK
  split at h1
  next ht =>
    refine ⟨tyA_at hK1 k1 r1 ht, hA ρ S1 c1 σ H1 _ hK1 k1 (e.nxt n1) (Res.post_mono (Res.post_bind.mp h1) (fun as S2 g => ?_) fun _ _ z => z.nxt n1)⟩
    intro c2 H2 us n2 k2 rs
    cases q : f x as S2 with
    | none =>
      rw [q] at g
      exact False.elim g
    | some p =>
      obtain ⟨y, S3⟩ := p
      rw [q] at g
      exact hm x as y S2 S3 c2 u us H2 Q (n2.K.trans hK1) k2 (r1.nxt n2) rs q (Good.nxt (show Good c H Q y S3 from g) (n1.trans n2))
  next => exact False.elim h1
theorem se_bm0 {r : V → List V → Hp → VK → Prop} {f : MF} (ha : SE W K ta da) (hm : SM K r f) : SE W K (tBM0 K T r ta) (dBM T f da dNil) := by
  intro ρ S c σ H Q hK k e h
  refine ha ρ S c σ H _ hK k e (Res.post_mono (Res.post_bind.mp h) (fun x S1 h1 => ?_) fun _ _ z => z)
  intro c1 H1 u n1 k1 r1
  have hK1 := n1.K.trans hK
  split at h1
  next ht =>
    refine ⟨tyA_at hK1 k1 r1 ht, ?_⟩
    have g : (match f x [] S1 with | some (y, S3) => (Res.ok y S3 : Res AV) | none => .bad).post (Good c H Q) (Fall c H (WE W σ)) := h1
    cases q : f x [] S1 with
    | none =>
      rw [q] at g
      exact False.elim g
    | some p =>
      obtain ⟨y, S3⟩ := p
      rw [q] at g
      exact hm x [] y S1 S3 c1 u [] H1 Q hK1 k1 r1 .nil q (Good.nxt (show Good c H Q y S3 from g) n1)
  next => exact False.elim h1
/-- a list of the store, its place in the heap -/
theorem Cor.lst_at {i : Nat} (k : Cor c S H) (r : Rel c H (.ref i) u) (e : stL S i = some xs) : ∃ a vs, u = .ref a ∧ c.tr[i]? = some a ∧ H a = some (.lst vs) ∧ Rels c H xs vs := by
  obtain ⟨a, e1, e2, vs, h1, h2⟩ := k.obj r (stL_eq.mp e)
  exact ⟨a, vs, e1, e2, h1, h2⟩
def fAppend : MF := fun x as S => match x, as with
  | .ref i, [y] => match stL S i with
    | some xs => if xs.length ≤ lim then some (.non, S.set i (.lst (xs ++ [y]))) else none
    | none => none
  | _, _ => none
theorem sm_append : SM K rAppend fAppend := by
  intro x as y S S' c u us H Q hK k r rs h g
  unfold fAppend at h
  split at h
  next i z =>
    split at h
    next xs q =>
      split at h
      next hl =>
        cases h
        obtain ⟨a, vs, rfl, ha, hv, rv⟩ := k.lst_at r q
        cases rs with
        | cons rz t =>
          cases t
          exact ⟨a, vs, _, rfl, rfl, hv, by rw [← rv.len]; have := sizeLine_eq; unfold lim at hl; omega, g c _ .non (k.nxtSet ha ⟨_, hv, trivial⟩) (k.setL ha hv (rv.app (.one rz))) .non⟩
      next => cases h
    next => cases h
  next => cases h
def fPop : MF := fun x as S => match x, as with
  | .ref i, [] => match stL S i with
    | some xs => match xs[xs.length - 1]? with
      | some y => some (y, S.set i (.lst xs.dropLast))
      | none => none
    | none => none
  | _, _ => none
theorem sm_pop : SM K rPop fPop := by
  intro x as y S S' c u us H Q hK k r rs h g
  unfold fPop at h
  split at h
  next i =>
    split at h
    next xs q =>
      split at h
      next z hz =>
        cases h
        obtain ⟨a, vs, rfl, ha, hv, rv⟩ := k.lst_at r q
        cases rs
        obtain ⟨w, hw, rw_⟩ := rv.at hz
        have ht : Rels c H xs.dropLast vs.dropLast := by
          rw [List.dropLast_eq_take, List.dropLast_eq_take, ← rv.len]
          exact rv.take _
        exact ⟨a, vs, w, rfl, rfl, hv, by rw [← rv.len]; exact hw, g c _ w (k.nxtSet ha ⟨_, hv, trivial⟩) (k.setL ha hv ht) (rw_.nxt (k.nxtSet ha ⟨_, hv, trivial⟩))⟩
      next => cases h
    next => cases h
  next => cases h
def fExtend : MF := fun x as S => match x, as with
  | .ref i, [y] => match stL S i, seqL S y with
    | some xs, some zs => if xs.length + zs.length ≤ lim then some (.non, S.set i (.lst (xs ++ zs))) else none
    | _, _ => none
  | _, _ => none
theorem sm_extend : SM K rExtend fExtend := by
  intro x as y S S' c u us H Q hK k r rs h g
  unfold fExtend at h
  split at h
  next i z =>
    split at h
    next xs zs q q2 =>
      split at h
      next hl =>
        cases h
        obtain ⟨a, vs, rfl, ha, hv, rv⟩ := k.lst_at r q
        cases rs with
        | cons rz t =>
          cases t
          obtain ⟨b, ws, rfl, hb, rb⟩ := seqL_at k rz q2
          exact ⟨a, b, vs, ws, rfl, rfl, hv, hb, by rw [← rv.len, ← rb.len]; have := sizeLine_eq; unfold lim at hl; omega, g c _ .non (k.nxtSet ha ⟨_, hv, trivial⟩) (k.setL ha hv (rv.app rb)) .non⟩
      next => cases h
    next => cases h
  next => cases h
end
end Dl
set_option Elab.async false
set_option linter.all false
set_option maxRecDepth 100000
set_option maxHeartbeats 4000000
namespace Dl
open PySem PySem.Spec PyProof.Rows L2 Evl Cm
/-! ### list(d.values()) -/
def tListVals (te : TE) : TE := fun σ H Q => te σ H fun x H1 => ∃ (d : Addr) (kvs : List (Key × V)), x = .ref d ∧ H1 d = some (.dK kvs) ∧ ∀ p, H1 p = none → Q (.ref p) (upd H1 p (.lst (kvs.map (·.2))))
theorem vals_of {kvs : List (Key × V)} {vs : List (Key × Value)} (r : KV kvs vs) : Vals (kvs.map (·.2)) (vs.map (·.2)) := by
  induction r with
  | nil => exact .nil
  | cons h _ ih => exact .cons h.2 ih
theorem pe_listVals {X : Cx} {e : Expr} {te : TE} {p apos cpos pos : Pos} (hc : X.calm = true) (he : PE X e te) (hg : Gl X "list") (hm : X.mg "list" = none) (hbase : attributeBase e "values" X.env (eval e X.env) = eval e X.env := by rfl) (hline : (apos.endLine == cpos.line) = true := by rfl)
    (hs : starEach [.Call (.Attribute e "values" apos) [] [] cpos] X.env = (false, eval (.Call (.Attribute e "values" apos) [] [] cpos) X.env) :: starEach [] X.env := by rfl) :
    PE X (.Call (.Name "list" p) [.Call (.Attribute e "values" apos) [] [] cpos] [] pos) (tListVals te) := by
  have hb : bootBuiltins "list" = some (.type "list") := by decide +kernel
  refine ⟨fun pins s σ H Q I h => wpAny_Call_Name_kw (ld_blt I hg hm hb (PyProof.Rows.callWith_type1 ?_ hs rfl))⟩
  rw [hs]
  refine Calls.spliced_cons (wpAny_Call_method (T := "dict") (id := "dict.values") hbase rfl hline F.plainAttrs_dict F.slot_dict_values F.type_dict_values (thn (he.run pins s σ H _ I h) ?_))
  rintro u s1 ⟨x, H1, J, rx, d, kvs, rfl, hd, q⟩
  obtain rfl : u = Value.ref d := rx
  obtain ⟨lz, lo, vs, rel, dd⟩ := J.hok d _ hd
  obtain ⟨ep, hat⟩ := dd.dictAt
  have ll : vs.length = kvs.length := (Paired.length rel).symm
  refine ⟨dd.typeIs, dd.mapOf.noDict, (show wpAny _ _ (callWith cpos (.builtin "dict.values") [.ref d] [] []) _ X.xe s1 from method_meetsIn F.slot_dict_values F.entry_dict_values rfl (PySem.evalArgs_none ⟨rfl, dd.typeIs, F.args_dict_values_1 _, _, meets_dict_values (mixKind X.prog X.w) d lo, ⟨vs, dd⟩, Calls.spliced_nil ?_⟩))⟩
  refine PySem.W.kdl_call (PySem.W.kdl_values (knd := mixKind X.prog X.w) (kvs := vs) (ep := ep)) (J.ok.hd hc) ⟨⟨_, Heap.get?_push_size _ rfl, rfl, rfl⟩, hat.push _⟩ (by omega) fun h' tk acc cc hk hl hacc => ?_
  have e1 : acc.toList = vs.map (·.2) := PySem.W.kdl_vals_eq acc.toList (by rw [Array.length_toList]; exact hacc.1) fun j v e => hacc.2 j v (by rw [← Array.getElem?_toList]; exact e)
  have kk : ∀ b o, s1.heap.get? b = some o → h'.get? b = some o := fun b o e => hk b o (Heap.get?_push_of_some _ e)
  have hsz : s1.heap.objs.size ≤ (s1.heap.push { cls := .type "dict_values", data := .fields #[.ref d] }).objs.size := by rw [Heap.size_push]; exact Nat.le_succ _
  refine ⟨.ref _, upd H1 _ (.lst (kvs.map (·.2))), J.laid (t' := tk) kk hsz ⟨by rw [List.length_map]; omega, acc.toList, cc, by rw [e1]; exact vals_of rel, by rw [Array.toArray_toList]; exact hl⟩, rfl, q _ (J.hok.fresh hsz)⟩
section
variable {W : WX} {K : PySem.W.Frag} {c c' : Co} {S : Store} {H H' : Hp} {x y z : AV} {u v : V} {xs ys : List AV} {us vs : List V} {te ta tb td : TE} {da db dd dz : DE} {tA : TA} {dA : DA}
theorem Relk.vals : ∀ {ks : List (AV × AV)} {kws : List (Key × V)}, Relk c H ks kws → Rels c H (ks.map (·.2)) (kws.map (·.2))
  | _, _, .nil => .nil
  | _, _, .cons _ r t => .cons r (Relk.vals t)
theorem Relk.keys : ∀ {ks : List (AV × AV)} {kws : List (Key × V)}, Relk c H ks kws → Rels c H (ks.map (·.1)) (kws.map fun p => kV p.1)
  | _, _, .nil => .nil
  | _, _, .cons k _ t => .cons k (Relk.keys t)
def dlListVals (d : DE) : DL := fun ρ S => (d ρ S).bind fun x S1 => match dicOf S1 x with
  | some ks => .ok (ks.map (·.2)) S1
  | none => .bad
theorem sl_listVals (h : SE W K te de) : SEL W K (tListVals te) (dlListVals de) := by
  intro ρ S c σ H Q hK k e q
  refine h ρ S c σ H _ hK k e (Res.post_mono (Res.post_bind.mp q) (fun x S1 g => ?_) fun _ _ z => z)
  intro c1 H1 v n1 k1 r1
  cases hd : dicOf S1 x with
  | none =>
    rw [hd] at g
    exact False.elim g
  | some ks =>
    rw [hd] at g
    obtain ⟨a, kws, rfl, h1, rs⟩ := dicOf_at k1 r1 hd
    exact ⟨a, kws, rfl, h1, fun p hp => g c1 H1 _ p n1 k1 hp rs.vals⟩
/-- {} -/
def dNewD : DE := fun _ S => .ok (.ref S.length) (S ++ [.dic []])
theorem se_newD : SE W K tDNewK dNewD := by
  intro ρ S c σ H Q hK k e h
  intro p hp
  have n := Nxt.add k (o := .dK []) hp
  exact (show Good c H Q (.ref S.length) (S ++ [.dic []]) from h) (c.add p) _ _ n (k.add hp ⟨[], upd_same, .nil⟩) (.ref (Co.add_at k))
/-- d[k] = v -/
def NPut (H : Hp) (a : Addr) (y v : V) (H' : Hp) : Prop := ∃ ks k w, H a = some (nodO a ks) ∧ y = optV k ∧ v = optV w ∧ ks.length < sizeLine ∧ H' = upd H a (nodO a (putN ks k w))
def sDPutA (td ty tv : TE) : TS := fun D σ H => tv σ H fun v H1 => td σ H1 fun x H2 => ty σ H2 fun y H3 => ∃ a H4, x = .ref a ∧ (DPut H3 a y v H4 ∨ NPut H3 a y v H4) ∧ D.nx σ H4
theorem ps_dputA {X : Cx} {o i value : Expr} {td ty tv : TE} {pos' pos : Pos} (hu : X.A.units + 1 < cLine) (ho : PE X o td) (hi : PE X i ty) (hv : PE X value tv) (hs : swapsWith value (some (.Subscript o i pos')) pos.line X.env = pure false) :
    PS X (.Assign [.Subscript o i pos'] value pos) (sDPutA td ty tv) := by
  refine ⟨fun pins s σ H D I h => ?_⟩
  refine wpAny_Assign_Subscript (thn (hv.run pins s σ H _ I h) fun r s1 ⟨v, H1, I1, rv, q1⟩ => thn (ho.run pins s1 σ H1 _ I1 q1) fun u s2 ⟨x, H2, I2, rx, q2⟩ => thn (hi.run pins s2 σ H2 _ I2 q2) fun iv s3 ⟨y, H3, I3, ry, a, H4, ex, g, q3⟩ => ?_) hs
  subst ex
  obtain rfl : u = Value.ref a := rx
  rcases g with g | ⟨ks, k, w, hd, rfl, rfl, hl, rfl⟩
  · exact d_setItem hu I3 g ry rv fun s4 I4 => ⟨σ, H4, I4, q3⟩
  · obtain ⟨hz, hsm, vs, rel, dd⟩ := nod_at I3 hd
    have hzv : vs.length ≤ sizeLine := by rw [← Paired.length rel, nodK, List.length_map]; exact hz
    refine wpAny_setItem_pairs (hsz := hzv) (nod_is ry) dd fun h' dd' hs => ⟨σ, _, d_write I3 (by rw [hd]; exact True.intro) hs (let ⟨q, _, _, hq, _⟩ := dd'; ⟨q, hq⟩) (nod_st (by have := putN_len k w ks; omega) hsm ?_ dd'), q3⟩
    rw [← putK_nod]
    exact rel.put (optK k) rv
def putB (ks : List (AV × AV)) (q x : AV) : List (AV × AV) := if (ks.any fun p => keyEq p.1 q) = true then ks.map (fun p => if keyEq p.1 q = true then (p.1, x) else p) else ks ++ [(q, x)]
theorem Relk.app : ∀ {ks ms : List (AV × AV)} {kws mws : List (Key × V)}, Relk c H ks kws → Relk c H ms mws → Relk c H (ks ++ ms) (kws ++ mws)
  | _, _, _, _, .nil, s => s
  | _, _, _, _, .cons k r t, s => .cons k r (Relk.app t s)
theorem lim_lt {n : Nat} (h : n ≤ lim) : n < sizeLine := by
  have := sizeLine_eq
  unfold lim at h
  omega
theorem Relk.put {q : AV} {kq : Key} {w : V} (r : Rel c H q (kV kq)) (rx : Rel c H x w) (hk : ∀ k' q', Rel c H k' (kV q') → keyEq k' q = decide (q' = kq)) {ks : List (AV × AV)} {kws : List (Key × V)} (h : Relk c H ks kws) : Relk c H (putB ks q x) (putK kws kq w) := by
  have ea : ∀ {ks : List (AV × AV)} {kws : List (Key × V)}, Relk c H ks kws → (ks.any fun p => keyEq p.1 q) = kws.any fun p => decide (p.1 = kq) := fun {ks kws} h => by
    induction ks generalizing kws with
    | nil =>
      cases h
      rfl
    | cons p ks ih =>
      cases h with
      | cons r1 _ t => rw [List.any_cons, List.any_cons, ih t, hk _ _ r1]
  have em : ∀ {ks : List (AV × AV)} {kws : List (Key × V)}, Relk c H ks kws → Relk c H (ks.map fun p => if keyEq p.1 q = true then (p.1, x) else p) (kws.map fun p => if p.1 = kq then (p.1, w) else p) := fun {ks kws} h => by
    induction ks generalizing kws with
    | nil =>
      cases h
      exact .nil
    | cons p ks ih =>
      cases h with
      | @cons k' x' q' v' _ _ r1 r2 t =>
        rw [List.map_cons, List.map_cons]
        have e := hk _ _ r1
        simp only
        by_cases z : q' = kq
        · rw [if_pos (by rw [e]; exact decide_eq_true z), if_pos z]
          exact .cons r1 rx (ih t)
        · rw [if_neg (by rw [e]; simpa using z), if_neg z]
          exact .cons r1 r2 (ih t)
  unfold putB putK
  rw [ea h]
  split
  · exact em h
  · exact h.app (.cons r rx .nil)
def dDPut (dd dy dv : DE) : DS := fun ρ S => (dv ρ S).go ρ fun v S1 => (dd ρ S1).go ρ fun x S2 => (dy ρ S2).go ρ fun y S3 => match x with
  | .ref i => (match stD S3 i with
    | some ks => if ks.length ≤ lim ∧ isKey y = true then .go (.nx ρ) (S3.set i (.dic (putB ks y v))) else .bad
    | none => (match stN S3 i, optI y, optI v with
      | some ks, some k, some w => if ks.length ≤ lim then .go (.nx ρ) (S3.set i (.nod (putN ks k w))) else .bad
      | _, _, _ => .bad))
  | _ => .bad
theorem ss_dput {ty tv : TE} {dy dv : DE} (hd : SE W K td dd) (hy : SE W K ty dy) (hv : SE W K tv dv) : SS W K (sDPutA td ty tv) (dDPut dd dy dv) := by
  intro ρ S c σ H D hK k e h
  refine hv ρ S c σ H _ hK k e (Res.post_mono (go_post e h) (fun v S1 h1 => ?_) fun _ _ z => z)
  intro c1 H1 uv n1 k1 r1
  have e1 := e.nxt n1
  have hK1 := n1.K.trans hK
  refine hd ρ S1 c1 σ H1 _ hK1 k1 e1 (Res.post_mono (go_post e1 (h1.nxt n1)) (fun x S2 h2 => ?_) fun _ _ z => z)
  intro c2 H2 ux n2 k2 r2
  have e2 := e1.nxt n2
  have hK2 := n2.K.trans hK1
  refine hy ρ S2 c2 σ H2 _ hK2 k2 e2 (Res.post_mono (go_post e2 (h2.nxt n2)) (fun y S3 h3 => ?_) fun _ _ z => z)
  intro c3 H3 uy n3 k3 r3
  have e3 := e2.nxt n3
  have rx := r2.nxt n3
  have rv := (r1.nxt n2).nxt n3
  have h3 := h3.nxt n3
  split at h3
  next i =>
    split at h3
    next ks q =>
      split at h3
      next hl =>
        obtain ⟨a, rfl, ha, kws, hw, rk⟩ := k3.obj rx (stD_eq.mp q)
        obtain ⟨kq, rfl, hk⟩ := key_rel r3 hl.2
        have rp := rk.put r3 rv hk
        refine ⟨a, _, rfl, .inl (DPut.k hw (by rw [← rk.len]; exact lim_lt hl.1)), ?_⟩
        exact (show GoodN c3 H3 D.nx ρ _ from h3) c3 _ σ (k3.nxtSet ha ⟨_, hw, trivial⟩) (k3.setD ha hw rp) (e3.nxt (k3.nxtSet ha ⟨_, hw, trivial⟩))
      next => exact False.elim h3
    next =>
      split at h3
      next ks j w q oy ov =>
        split at h3
        next hl =>
          obtain ⟨a, rfl, ha, hw⟩ := k3.obj rx (stN_eq.mp q)
          refine ⟨a, _, rfl, .inr ⟨ks, j, w, hw, optI_at r3 oy, optI_at rv ov, lim_lt hl, rfl⟩, ?_⟩
          exact (show GoodN c3 H3 D.nx ρ _ from h3) c3 _ σ (k3.nxtSet ha ⟨_, hw, trivial⟩) (k3.set ha ⟨_, hw, trivial⟩ upd_same) (e3.nxt (k3.nxtSet ha ⟨_, hw, trivial⟩))
        next => exact False.elim h3
      next => exact False.elim h3
  next => exact False.elim h3
/-- d.get(k), d.get(k, x) -/
def dGet2 (dd dy dz : DE) : DE := fun ρ S => (dd ρ S).bind fun x S1 => if (dicOf S1 x).isSome = true then (dy ρ S1).bind fun y S2 => (dz ρ S2).bind fun z S3 => match dicOf S3 x with
  | some ks => if isKey y = true then .ok ((look ks y).getD z) S3 else .bad
  | none => .bad else .bad
def dGet1 (dd dy : DE) : DE := fun ρ S => (dd ρ S).bind fun x S1 => if (dicOf S1 x).isSome = true then (dy ρ S1).bind fun y S2 => match dicOf S2 x with
  | some ks => if isKey y = true then .ok ((look ks y).getD .non) S2 else .bad
  | none => .bad else .bad
theorem isD_of {a : Addr} {kws : List (Key × V)} (h : H a = some (.dK kws)) : IsD H a := .inl ⟨kws, .inl h⟩
theorem dget_ref (k : Cor c S H) {a : Addr} {ks : List (AV × AV)} (r : Rel c H x (.ref a)) (e : dicOf S x = some ks) (ry : Rel c H y u) (hy : isKey y = true) (rz : Rel c H z v) : ∃ o, DGet H a u o ∧ Rel c H ((look ks y).getD z) (o.getD v) := by
  obtain ⟨a', o, e1, g, m⟩ := dget_at k r e ry hy
  cases e1
  refine ⟨o, g, ?_⟩
  cases h1 : look ks y <;> cases o <;> rw [h1] at m <;> first | exact rz | exact m | exact False.elim m
theorem se_get1 {ty : TE} {dy : DE} (hd : SE W K td dd) (hy : SE W K ty dy) : SE W K (tDGet1 td ty) (dGet1 dd dy) := by
  intro ρ S c σ H Q hK k e h
  refine hd ρ S c σ H _ hK k e (Res.post_mono (Res.post_bind.mp h) (fun x S1 h1 => ?_) fun _ _ z => z)
  intro c1 H1 ux n1 k1 r1
  split at h1
  next hs =>
    obtain ⟨ks, hks⟩ := Option.isSome_iff_exists.mp hs
    obtain ⟨a, kws, rfl, hw, _⟩ := dicOf_at k1 r1 hks
    have hK1 := n1.K.trans hK
    refine ⟨a, rfl, isD_of hw, hy ρ S1 c1 σ H1 _ hK1 k1 (e.nxt n1) (Res.post_mono (Res.post_bind.mp h1) (fun y S2 h2 => ?_) fun _ _ z => z.nxt n1)⟩
    intro c2 H2 uy n2 k2 r2
    split at h2
    next ks2 hks2 =>
      split at h2
      next hk =>
        obtain ⟨o, g, ro⟩ := dget_ref k2 (r1.nxt n2) hks2 r2 hk .non
        exact ⟨o, g, h2 c2 H2 _ (n1.trans n2) k2 ro⟩
      next => exact False.elim h2
    next => exact False.elim h2
  next => exact False.elim h1
theorem se_get2 {ty tz : TE} {dy dz : DE} (hd : SE W K td dd) (hy : SE W K ty dy) (hz : SE W K tz dz) : SE W K (tDGet2 td ty tz) (dGet2 dd dy dz) := by
  intro ρ S c σ H Q hK k e h
  refine hd ρ S c σ H _ hK k e (Res.post_mono (Res.post_bind.mp h) (fun x S1 h1 => ?_) fun _ _ z => z)
  intro c1 H1 ux n1 k1 r1
  split at h1
  next hs =>
    obtain ⟨ks, hks⟩ := Option.isSome_iff_exists.mp hs
    obtain ⟨a, kws, rfl, hw, _⟩ := dicOf_at k1 r1 hks
    have hK1 := n1.K.trans hK
    have e1 := e.nxt n1
    refine ⟨a, rfl, isD_of hw, hy ρ S1 c1 σ H1 _ hK1 k1 e1 (Res.post_mono (Res.post_bind.mp h1) (fun y S2 h2 => ?_) fun _ _ z => z.nxt n1)⟩
    intro c2 H2 uy n2 k2 r2
    have n12 := n1.trans n2
    refine hz ρ S2 c2 σ H2 _ (n2.K.trans hK1) k2 (e1.nxt n2) (Res.post_mono (Res.post_bind.mp h2) (fun z S3 h3 => ?_) fun _ _ z => z.nxt n12)
    intro c3 H3 uz n3 k3 r3
    split at h3
    next ks2 hks2 =>
      split at h3
      next hk =>
        obtain ⟨o, g, ro⟩ := dget_ref k3 ((r1.nxt n2).nxt n3) hks2 (r2.nxt n3) hk r3
        exact ⟨o, g, h3 c3 H3 _ (n12.trans n3) k3 ro⟩
      next => exact False.elim h3
    next => exact False.elim h3
  next => exact False.elim h1
end
end Dl
set_option Elab.async false
set_option linter.all false
set_option maxRecDepth 100000
set_option maxHeartbeats 4000000
namespace Dl
open PySem PySem.Spec PyProof.Rows L2 Evl Cm
/-! ### tuples that are known whole: t.index(x), dict(t) -/
theorem pln_at {X : Cx} {pins : List (Addr × Obj)} {σ : L2.St} {H : Hp} {s : Shared} {a : Addr} (I : L2.Inv X pins σ H s) (h : Pln X.K H a) : ∃ o, s.heap.get? a = some o ∧ o.cls = .type "tuple" ∧ o.dict = none := by
  rcases h with ⟨o, u, h, h1, h2⟩ | ⟨o, h, h1, h2⟩
  · exact ⟨o, (I.hok a _ h).1, h1, h2⟩
  · exact ⟨o, I.kIn a o h, h1, h2⟩
def rTIx (K : PySem.W.Frag) : V → List V → Hp → VK → Prop := fun x xs H Q => ∃ p, ∃ ys : List Str, ∃ z j, x = .ref p ∧ xs = [.str z] ∧ SqT K H p (ys.map V.str) ∧ ys[j]? = some z ∧ (∀ m, m < j → ys[m]? ≠ some z) ∧ Q (.int (j : Nat)) H
def tTIx (K : PySem.W.Frag) (to : TE) (t : TA) : TE := fun σ H Q => to σ H fun x H1 => ∃ a, x = .ref a ∧ Pln K H1 a ∧ t σ H1 fun xs H2 => rTIx K x xs H2 Q
theorem pe_tIx {X : Cx} {o e : Expr} {to : TE} {t : TA} {apos cpos : Pos} (ho : PE X o to) (ha : PA X [e] t) (hbase : attributeBase o "index" X.env (eval o X.env) = eval o X.env := by rfl) (hline : (apos.endLine == cpos.line) = true := by rfl) (hs : starEach [e] X.env = [(false, eval e X.env)] := by rfl) :
    PE X (.Call (.Attribute o "index" apos) [e] [] cpos) (tTIx X.K to t) := by
  have hfew : ((backTo cpos (starEach [e] X.env)).all (fun x => !x.1) && (backToKw cpos (keywordEach [] X.env)).all (fun x => x.1.isSome) && decide (([e] : List Expr).length + ([] : List Keyword).length + (if ([] : List Keyword).isEmpty then 0 else 1) < 30)) = true := by
    rw [hs]
    rfl
  refine ⟨fun pins s σ H Q I h => wpAny_Call_method_late hbase hfew hline rfl (thn (ho.run pins s σ H _ I h) ?_)⟩
  rintro v s1 ⟨x, H1, I1, r1, a, rfl, hp, q1⟩
  obtain rfl : v = Value.ref a := r1
  obtain ⟨ob, h1, h2, h3⟩ := pln_at I1 hp
  refine ⟨"tuple", "tuple.index", PySem.F.plainAttrs_tuple, PySem.F.slot_tuple_index, PySem.F.type_tuple_index, ⟨ob, h1, h2⟩, fun b e => ?_, ?_⟩
  · cases e
    exact ⟨ob, h1, h3⟩
  · have hA := ha.run cpos pins s1 σ H1 _ I1 q1
    rw [hs] at hA ⊢
    exact Calls.callWith_builtin (by rfl) (Calls.evalArgs_plain (thn hA fun us s2 ⟨vs, H2, I2, r2, q2⟩ => mt_tup_index pins s2 σ H2 (.ref a) vs (.ref a) us Q I2 rfl r2 q2))
def rDictT (K : PySem.W.Frag) : List V → Hp → VK → Prop := fun xs H Q => ∃ (a : Addr) (ps : List Addr) (kvs : List (Key × V)), xs = [.ref a] ∧ SqT K H a (ps.map V.ref) ∧ Pln K H a ∧ Paired (fun p kv => SqT K H p [kV kv.1, kv.2]) ps kvs ∧ ∀ p, H p = none → Q (.ref p) (upd H p (.dK (mergeK [] kvs)))
theorem paired_at {α β : Type} {R : α → β → Prop} {xs : List α} {ys : List β} (p : Paired R xs ys) {i : Nat} {y : β} (h : ys[i]? = some y) : ∃ x, xs[i]? = some x ∧ R x y := by
  induction p generalizing i with
  | nil => simp at h
  | cons r _ ih =>
    cases i with
    | zero =>
      cases h
      exact ⟨_, rfl, r⟩
    | succ i =>
      obtain ⟨x, h1, h2⟩ := ih (by simpa using h)
      exact ⟨x, by simpa using h1, h2⟩
/-- the pairs as they lie -/
theorem pairs_lie {X : Cx} {pins : List (Addr × Obj)} {σ : L2.St} {H : Hp} {s : Shared} (I : L2.Inv X pins σ H s) : ∀ {ps : List Addr} {kvs : List (Key × V)}, Paired (fun p kv => SqT X.K H p [kV kv.1, kv.2]) ps kvs →
    ∃ (prs : List (Key × Value)) (us : List (Value × Value)), KV kvs prs ∧ prs.length = ps.length ∧ us.length = ps.length ∧ ∀ (j : Nat) (k v : Value), us[j]? = some (k, v) → ∃ (b : Addr) (q : Key), ps[j]? = some b ∧ prs[j]? = some (q, v) ∧ IsTup s.heap b #[k, v] ∧ keyIs q k = true
  | _, _, .nil => ⟨[], [], .nil, rfl, rfl, fun j k v e => by simp at e⟩
  | _, _, .cons (a := p) (b := kv) h t => by
    obtain ⟨prs, us, r, h1, h2, h3⟩ := pairs_lie I t
    obtain ⟨its, rv, ht, _⟩ := I.tuple h
    obtain ⟨u, y, rfl, ru, ry⟩ := vals2 rv
    refine ⟨(kv.1, y) :: prs, (u, y) :: us, .cons ⟨rfl, ry⟩ r, congrArg (· + 1) h1, congrArg (· + 1) h2, fun j k v e => ?_⟩
    cases j with
    | zero =>
      cases e
      exact ⟨p, kv.1, rfl, rfl, ht, kV_is (P := X.prog) (w := X.w) ru⟩
    | succ j =>
      obtain ⟨b, q, e1, e2, e3⟩ := h3 j k v (by simpa using e)
      exact ⟨b, q, by simpa using e1, by simpa using e2, e3⟩
theorem call_dictT {X : Cx} (hc : X.calm = true) : CallR X (.type "dict") (rDictT X.K) := by
  intro pins s σ H xs us Q I r q
  obtain ⟨a, ps, kvs, rfl, hq, hp, hk, q⟩ := q
  obtain ⟨u, rfl, rx⟩ := vals1 r
  cases rx
  obtain ⟨its, rv, it, hz⟩ := I.tuple hq
  have ei := refs_at rv
  subst ei
  obtain ⟨prs, us, rel, hl, hl2, hat⟩ := pairs_lie I hk
  obtain ⟨ob, g1, g2, g3⟩ := pln_at I hp
  obtain ⟨o2, g4, g5, n, g6⟩ := it
  rw [g1] at g4
  cases g4
  have tl : ps.length ≤ sizeLine := by rw [List.length_map] at hz; exact hz
  have bl : ∀ j, j < us.length → ∃ b, ps[j]? = some b := fun j hj => ⟨ps[j]'(by omega), List.getElem?_eq_getElem _⟩
  refine PySem.call_dict_pairs (A := X.A) (knd := mixKind X.prog X.w) (kvs := prs) (PySem.PairArg.tuple a (ps.map Value.ref).toArray (fun j => (ps[j]?).getD 0) us) (I.ok.hd hc) ⟨⟨ob, n, g1, g2, g3, g6⟩, by rw [List.size_toArray, List.length_map, hl2], fun j k v e => ?_⟩ ⟨by rw [hl, hl2], fun j k v e => ?_⟩ (by rw [hl2]; exact tl) fun h' tk hd' kp => ?_
  · obtain ⟨b, q', e1, _, e3, _⟩ := hat j k v e
    refine ⟨by simp [e1], .inl ?_⟩
    show s.heap.IsTuple ((ps[j]?).getD 0) #[k, v]
    rw [e1]
    exact e3
  · obtain ⟨b, q', _, e2, _, e4⟩ := hat j k v e
    exact ⟨q', e2, e4⟩
  · have hm : (s.heap.objs.size == sysModules) = false := beq_eq_false_iff_ne.mpr (Nat.ne_of_gt I.big)
    have hlen : (mergeK [] kvs).length ≤ sizeLine := by
      refine Nat.le_trans (length_mergeK kvs []) ?_
      rw [List.length_nil, Nat.zero_add, rel.length, hl]
      exact tl
    exact ⟨.ref s.heap.objs.size, upd H s.heap.objs.size (.dK (mergeK [] kvs)), I.laid (t' := tk) (fun b o e => kp b o List.not_mem_nil e) (Nat.le_refl _) (show ObjOk X.prog X.w _ _ _ (.dK (mergeK [] kvs)) from ⟨hlen, hm, merged [] prs, KV.merge rel .nil, hd'⟩), rfl, q _ (I.hok.fresh (Nat.le_refl _))⟩
section
variable {W : WX} {K : PySem.W.Frag} {c c' : Co} {S : Store} {H H' : Hp} {x y z : AV} {u v : V} {xs ys : List AV} {us vs : List V} {te ta tb td : TE} {da db dd dz de : DE} {tA : TA} {dA : DA}
/-! ### t.index(x) of texts -/
def txtsA : List AV → Option (List Str)
  | [] => some []
  | .str z :: r => (txtsA r).map (z :: ·)
  | _ :: _ => none
theorem txtsA_at : ∀ {xs : List AV} {vs : List V} {zs : List Str}, Rels c H xs vs → txtsA xs = some zs → vs = zs.map V.str
  | _, _, zs, .nil, e => by
    cases e
    rfl
  | x :: xs, v :: vs, zs, .cons r t, e => by
    cases x with
    | str w =>
      obtain ⟨ws, h1, h2⟩ := Option.map_eq_some_iff.mp (show (txtsA xs).map (w :: ·) = some zs from e)
      subst h2
      rw [txtsA_at t h1]
      cases r
      rfl
    | _ => cases e
def dTIx (dx dy : DE) : DE := fun ρ S => (dx ρ S).bind fun x S1 => match x with
  | .tup true xs => (dy ρ S1).bind fun y S2 => match y, txtsA xs with
    | .str z, some zs => if z ∈ zs then .ok (.int (zs.idxOf z : Nat)) S2 else .bad
    | _, _ => .bad
  | _ => .bad
theorem idx_at {z : Str} : ∀ {zs : List Str}, z ∈ zs → zs[zs.idxOf z]? = some z ∧ ∀ m, m < zs.idxOf z → zs[m]? ≠ some z
  | [], h => absurd h List.not_mem_nil
  | w :: zs, h => by
    rw [List.idxOf_cons]
    by_cases q : w = z
    · subst q
      simp
    · have hz : z ∈ zs := by
        rcases List.mem_cons.mp h with e | e
        · exact absurd e.symm q
        · exact e
      obtain ⟨h1, h2⟩ := idx_at hz
      have qb : (w == z) = false := beq_eq_false_iff_ne.mpr q
      rw [qb]
      refine ⟨by simpa using h1, fun m hm => ?_⟩
      cases m with
      | zero => simpa using q
      | succ m => simpa using h2 m (by simpa using hm)
theorem se_tIx {to ty : TE} {dx dy : DE} (hx : SE W K to dx) (hy : SE W K ty dy) : SE W K (tTIx K to (tCons ty tNil)) (dTIx dx dy) := by
  intro ρ S c σ H Q hK k e h
  refine hx ρ S c σ H _ hK k e (Res.post_mono (Res.post_bind.mp h) (fun x S1 h1 => ?_) fun _ _ z => z)
  intro c1 H1 v n1 k1 r1
  have hK1 := n1.K.trans hK
  split at h1
  next xs =>
    cases r1 with
    | @tup a _ _ vs hs hp rs =>
      refine ⟨a, rfl, by rw [← hK1]; exact hp rfl, ?_⟩
      refine hy ρ S1 c1 σ H1 _ hK1 k1 (e.nxt n1) (Res.post_mono (Res.post_bind.mp h1) (fun y S2 h2 => ?_) fun _ _ z => z.nxt n1)
      intro c2 H2 w n2 k2 r2
      split at h2
      next z zs q =>
        split at h2
        next hm =>
          obtain ⟨e1, e2⟩ := idx_at hm
          have hv := txtsA_at (rs.nxt n2) q
          have s2 := n2.sqT hs
          rw [n2.K, hK1, hv] at s2
          cases r2
          exact ⟨a, zs, z, _, rfl, rfl, s2, e1, e2, h2 c2 H2 _ (n1.trans n2) k2 (.int _)⟩
        next => exact False.elim h2
      next => exact False.elim h2
  next => exact False.elim h1
/-! ### new dicts -/
abbrev DDc := Env → Store → Res (List (AV × AV))
/-- a reading that makes a new dict -/
def SED (W : WX) (K : PySem.W.Frag) (t : TE) (d : DDc) : Prop := ∀ (ρ : Env) (S : Store) (c : Co) (σ : L2.St) (H : Hp) (Q : VK), c.K = K → Cor c S H → EnvR c H ρ σ →
  (d ρ S).post (fun ks S' => ∀ c' H0 kws p, Nxt c H c' H0 → Cor c' S' H0 → H0 p = none → Relk c' H0 ks kws → Q (.ref p) (upd H0 p (.dK kws))) (Fall c H (WE W σ)) → t σ H Q
/-- it becomes a thing of the store -/
def dThD (d : DDc) : DE := fun ρ S => (d ρ S).bind fun ks S1 => .ok (.ref S1.length) (S1 ++ [.dic ks])
theorem se_thD {d : DDc} (h : SED W K te d) : SE W K te (dThD d) := by
  intro ρ S c σ H Q hK k e q
  refine h ρ S c σ H Q hK k e (Res.post_mono (Res.post_bind.mp q) (fun ks S1 g => ?_) fun _ _ z => z)
  intro c1 H1 kws p n1 k1 hp r
  have n2 := Nxt.add k1 (o := .dK kws) hp
  exact g (c1.add p) _ _ (n1.trans n2) (k1.add hp ⟨kws, upd_same, r.nxt n2⟩) (.ref (Co.add_at k1))
def mergeB (ks more : List (AV × AV)) : List (AV × AV) := more.foldl (fun acc p => putB acc p.1 p.2) ks
def keysOk (ks : List (AV × AV)) : Bool := ks.all fun p => isKey p.1
theorem Relk.merge : ∀ {more ks : List (AV × AV)} {mws kws : List (Key × V)}, Relk c H more mws → Relk c H ks kws → keysOk more = true → Relk c H (mergeB ks more) (mergeK kws mws)
  | _, _, _, _, .nil, s, _ => s
  | (k, x) :: more, ks, (q, v) :: mws, kws, .cons r1 r2 t, s, h => by
    have h' := Bool.and_eq_true_iff.mp (show (isKey k && keysOk more) = true from h)
    obtain ⟨q', e, hk⟩ := key_rel r1 h'.1
    have : q = q' := kV_inj e
    subst this
    show Relk c H (mergeB (putB ks k x) more) (mergeK (putK kws q v) mws)
    exact Relk.merge t (s.put r1 r2 hk) h'.2
/-- tuples of a key and a value -/
def pairsA : List AV → Option (List (AV × AV))
  | [] => some []
  | .tup _ [k, x] :: r => (pairsA r).map ((k, x) :: ·)
  | _ :: _ => none
theorem pairsA_at (hK : c.K = K) : ∀ {xs : List AV} {vs : List V} {ks : List (AV × AV)}, Rels c H xs vs → pairsA xs = some ks → keysOk ks = true → ∃ (ps : List Addr) (kvs : List (Key × V)), vs = ps.map V.ref ∧ Paired (fun p kv => SqT K H p [kV kv.1, kv.2]) ps kvs ∧ Relk c H ks kvs
  | _, _, ks, .nil, e, _ => by
    cases e
    exact ⟨[], [], rfl, .nil, .nil⟩
  | x :: xs, v :: vs, ks, .cons r t, e, hk => by
    unfold pairsA at e
    split at e
    next => rename_i q; cases q
    next p a b r' q =>
      cases q
      obtain ⟨ms, h1, h2⟩ := Option.map_eq_some_iff.mp e
      subst h2
      have hk' := Bool.and_eq_true_iff.mp (show (isKey a && keysOk ms) = true from hk)
      obtain ⟨ps, kvs, e1, e2, e3⟩ := pairsA_at hK t h1 hk'.2
      cases r with
      | tup hs _ rs =>
        cases rs with
        | cons ra rs =>
          cases rs with
          | cons rb rs =>
            cases rs
            obtain ⟨q, rfl, _⟩ := key_rel ra hk'.1
            exact ⟨_ :: ps, (q, _) :: kvs, by rw [e1]; rfl, .cons (by rw [← hK]; exact hs) e2, .cons ra rb e3⟩
    next => cases e
/-- dict(t) of a tuple of pairs -/
def ddTup (dA : DA) : DDc := fun ρ S => (dA ρ S).bind fun as S1 => match as with
  | [.tup true xs] => (match pairsA xs with
    | some ks => if keysOk ks = true then .ok (mergeB [] ks) S1 else .bad
    | none => .bad)
  | _ => .bad
theorem sd_tup (ha : SA W K tA dA) : SED W K (tCB (rDictT K) tA) (ddTup dA) := by
  intro ρ S c σ H Q hK k e h
  refine ha ρ S c σ H _ hK k e (Res.post_mono (Res.post_bind.mp h) (fun as S1 h1 => ?_) fun _ _ z => z)
  intro c1 H1 us n1 k1 rs
  have hK1 := n1.K.trans hK
  split at h1
  next xs =>
    split at h1
    next ks q =>
      split at h1
      next hk =>
        cases rs with
        | cons r rs =>
          cases rs
          cases r with
          | @tup a _ _ vs hs hp rs =>
            obtain ⟨ps, kvs, rfl, e2, e3⟩ := pairsA_at hK1 rs q hk
            exact ⟨a, ps, kvs, rfl, by rw [← hK1]; exact hs, by rw [← hK1]; exact hp rfl, e2, fun p hp => h1 c1 H1 _ p n1 k1 hp (Relk.merge e3 .nil hk)⟩
      next => exact False.elim h1
    next => exact False.elim h1
  next => exact False.elim h1
/-! ### sorted(d) of a dict with ints -/
def intsA : List AV → Option (List Int)
  | [] => some []
  | .int i :: r => (intsA r).map (i :: ·)
  | _ :: _ => none
theorem intsA_at : ∀ {ks : List (AV × AV)} {kws : List (Key × V)} {is : List Int}, Relk c H ks kws → intsA (ks.map (·.1)) = some is → kws.map (·.1) = is.map Sum.inl
  | _, _, is, .nil, e => by
    cases e
    rfl
  | (k, x) :: ks, (q, v) :: kws, is, .cons r _ t, e => by
    cases k with
    | int i =>
      obtain ⟨js, h1, h2⟩ := Option.map_eq_some_iff.mp (show (intsA (ks.map (·.1))).map (i :: ·) = some is from e)
      subst h2
      rw [List.map_cons, List.map_cons, intsA_at t h1]
      cases q with
      | inl j =>
        have : V.int j = V.int i := r.i
        cases this
        rfl
      | inr j => cases (show V.str j = V.int i from r.i)
    | _ => cases e
def insI (i : Int) : List Int → List Int
  | [] => [i]
  | j :: r => if i ≤ j then i :: j :: r else j :: insI i r
def sortI : List Int → List Int
  | [] => []
  | i :: r => insI i (sortI r)
theorem insI_perm (i : Int) : ∀ l : List Int, (insI i l).Perm (i :: l)
  | [] => .refl _
  | j :: r => by
    unfold insI
    split
    · exact .refl _
    · exact ((insI_perm i r).cons j).trans (.swap i j r)
theorem sortI_perm : ∀ l : List Int, (sortI l).Perm l
  | [] => .refl _
  | i :: r => (insI_perm i _).trans ((sortI_perm r).cons i)
theorem insI_sorted (i : Int) : ∀ l : List Int, l.Pairwise (· ≤ ·) → (insI i l).Pairwise (· ≤ ·)
  | [], _ => .cons (fun _ h => absurd h List.not_mem_nil) .nil
  | j :: r, h => by
    obtain ⟨h1, h2⟩ := List.pairwise_cons.mp h
    unfold insI
    split
    next hij => exact .cons (fun b hb => (List.mem_cons.mp hb).elim (fun e => by rw [e]; exact hij) fun hb => Int.le_trans hij (h1 b hb)) h
    next hij => exact .cons (fun b hb => (List.mem_cons.mp ((insI_perm i r).mem_iff.mp hb)).elim (fun e => by rw [e]; omega) fun hb => h1 b hb) (insI_sorted i r h2)
theorem sortI_sorted : ∀ l : List Int, (sortI l).Pairwise (· ≤ ·)
  | [] => .nil
  | i :: r => insI_sorted i _ (sortI_sorted r)
theorem sorted_one : ∀ {a b : List Int}, a.Perm b → a.Pairwise (· ≤ ·) → b.Pairwise (· ≤ ·) → a = b
  | [], b, p, _, _ => (List.Perm.nil_eq p)
  | i :: a, [], p, _, _ => absurd p.length_eq (by simp)
  | i :: a, j :: b, p, ha, hb => by
    obtain ⟨h1, h2⟩ := List.pairwise_cons.mp ha
    obtain ⟨h3, h4⟩ := List.pairwise_cons.mp hb
    have e : i = j := by
      have m1 : i ∈ j :: b := p.mem_iff.mp List.mem_cons_self
      have m2 : j ∈ i :: a := p.mem_iff.mpr List.mem_cons_self
      rcases List.mem_cons.mp m1 with z | z
      · exact z
      · rcases List.mem_cons.mp m2 with y | y
        · exact y.symm
        · have := h3 i z
          have := h1 j y
          omega
    subst e
    rw [sorted_one p.cons_inv h2 h4]
def dlSortD (dA : DA) : DL := fun ρ S => (dA ρ S).bind fun as S1 => match as with
  | [x] => (match dicOf S1 x with
    | some ks => (match intsA (ks.map (·.1)) with
      | some is => if is.length < 64 then .ok ((sortI is).map .int) S1 else .bad
      | none => .bad)
    | none => .bad)
  | _ => .bad
theorem ints_rels : ∀ is : List Int, Rels c H (is.map AV.int) (is.map V.int)
  | [] => .nil
  | i :: r => .cons (.int i) (ints_rels r)
def rSortD : List V → Hp → VK → Prop := fun xs H Q => ∃ (a : Addr) (kvs : List (Key × V)) (ks : List Int), xs = [.ref a] ∧ Rd H a (.dK kvs) ∧ kvs.map (·.1) = ks.map Sum.inl ∧ ks.length < 64 ∧ ∀ (ys : List Int) (p : Addr), ys.Perm ks → ys.Pairwise (· ≤ ·) → H p = none → Q (.ref p) (upd H p (.lst (ys.map V.int)))
theorem call_sortD {X : Cx} (hc : X.calm = true) : CallR X (.builtin "sorted") rSortD := call_sortedDI hc
theorem sl_sortD (ha : SA W K tA dA) : SEL W K (tCB rSortD tA) (dlSortD dA) := by
  intro ρ S c σ H Q hK k e h
  refine ha ρ S c σ H _ hK k e (Res.post_mono (Res.post_bind.mp h) (fun as S1 h1 => ?_) fun _ _ z => z)
  intro c1 H1 us n1 k1 rs
  split at h1
  next x =>
    split at h1
    next ks q =>
      split at h1
      next is q2 =>
        split at h1
        next hl =>
          cases rs with
          | cons r rs =>
            cases rs
            obtain ⟨a, kws, rfl, hw, rk⟩ := dicOf_at k1 r q
            refine ⟨a, kws, is, rfl, .inl hw, intsA_at rk q2, hl, fun ys p hp hs hn => ?_⟩
            have : ys = sortI is := sorted_one (hp.trans (sortI_perm is).symm) hs (sortI_sorted is)
            subst this
            exact h1 c1 H1 _ p n1 k1 hn (ints_rels _)
        next => exact False.elim h1
      next => exact False.elim h1
    next => exact False.elim h1
  next => exact False.elim h1
end
end Dl
set_option Elab.async false
set_option linter.all false
set_option maxRecDepth 100000
set_option maxHeartbeats 4000000
namespace Dl
open PySem PySem.Spec PyProof.Rows L2 Evl Cm
/-! ### what is never reached: nothing is said of it -/
def tNev : TS := fun _ _ _ => False
def eNev : TE := fun _ _ _ => False
theorem ps_nev {X : Cx} {s : Stmt} : PS X s tNev := ⟨fun _ _ _ _ _ _ h => h.elim⟩
theorem pe_nev {X : Cx} {e : Expr} : PE X e eNev := ⟨fun _ _ _ _ _ _ h => h.elim⟩
def dBadS : DS := fun _ _ => .bad
def dBadE : DE := fun _ _ => .bad
section
variable {W : WX} {K : PySem.W.Frag} {c c' : Co} {S : Store} {H H' : Hp} {x y z : AV} {u v : V} {xs ys : List AV} {us vs : List V} {te ta tb td tk tv : TE} {da db dd dz de dv : DE} {tA : TA} {dA : DA} {tT : TT} {dT : DT} {t : TS} {ds : DS}
theorem ss_bad : SS W K t dBadS := fun _ _ _ _ _ _ _ _ _ h => False.elim h
theorem se_bad : SE W K te dBadE := fun _ _ _ _ _ _ _ _ _ h => False.elim h
/-! ### while -/
def whileD (dT : DT) (ds : DS) : Nat → DS
  | 0, _, _ => .bad
  | n + 1, ρ, S => (dT ρ S).go ρ fun b S1 => if b = true then (match ds ρ S1 with
    | .go (.nx ρ2) S2 => whileD dT ds n ρ2 S2
    | .go (.ct ρ2) S2 => whileD dT ds n ρ2 S2
    | .go (.bk ρ2) S2 => .go (.nx ρ2) S2
    | q => q) else .go (.nx ρ) S1
theorem ss_while (n : Nat) (hT : ST W K tT dT) (hb : SS W K t ds) : SS W K (tWhile tT t) (whileD dT ds n) := by
  intro ρ S c σ H D hK k e h
  refine ⟨fun m σ' H' => ∃ c' ρ' S', c'.K = K ∧ Cor c' S' H' ∧ EnvR c' H' ρ' σ' ∧ SP c' H' W D (whileD dT ds m ρ' S'), ⟨n, c, ρ, S, hK, k, e, h⟩, ?_⟩
  rintro m σ H ⟨c, ρ, S, hK, k, e, h⟩
  cases m with
  | zero => exact False.elim h
  | succ m =>
    refine hT ρ S c σ H _ hK k e (Res.post_mono (go_post e h) (fun b S1 h1 => ?_) fun _ _ z => z)
    intro c1 H1 n1 k1
    have h1 := SP.nxt h1 n1
    have e1 := e.nxt n1
    have hK1 := n1.K.trans hK
    cases b with
    | false => exact (show GoodN c1 H1 D.nx ρ S1 from h1) c1 H1 σ (Nxt.refl c1 H1) k1 e1
    | true =>
      rw [if_pos rfl] at h1
      refine ⟨fun σ' H' => ∃ c' ρ' S', c'.K = K ∧ Cor c' S' H' ∧ EnvR c' H' ρ' σ' ∧ SP c' H' W D (whileD dT ds m ρ' S'), fun σ' H' z => ⟨m, Nat.lt_succ_self m, z⟩, hb ρ S1 c1 σ H1 _ hK1 k1 e1 ?_⟩
      cases q : ds ρ S1 with
      | bad =>
        rw [q] at h1
        exact False.elim h1
      | go f S2 =>
        rw [q] at h1
        cases f with
        | nx ρ2 => exact fun c4 H4 σ4 n4 k4 e4 => ⟨c4, ρ2, S2, n4.K.trans hK1, k4, e4, SP.nxt h1 n4⟩
        | ct ρ2 => exact fun c4 H4 σ4 n4 k4 e4 => ⟨c4, ρ2, S2, n4.K.trans hK1, k4, e4, SP.nxt h1 n4⟩
        | bk ρ2 => exact h1
        | rt v => exact h1
        | xc ρ2 x => exact h1
/-! ### o.f = e -/
def putFA (f : Str) (v : AV) : List (Str × AV) → List (Str × AV)
  | [] => [(f, v)]
  | (g, x) :: r => if g = f then (g, v) :: r else (g, x) :: putFA f v r
theorem Relf.put {f : Str} (rv : Rel c H x v) : ∀ {fs : List (Str × AV)} {gs : List (Str × V)}, Relf c H fs gs → Relf c H (putFA f x fs) (putF f v gs)
  | _, _, .nil => .cons rv .nil
  | _, _, .cons (f := g) r t => by
    unfold putFA putF
    split
    · exact .cons rv t
    · exact .cons r (Relf.put rv t)
def dSetF (f : Str) (ns : List Str) (dv dx : DE) : DS := fun ρ S => (dv ρ S).go ρ fun y S1 => (dx ρ S1).go ρ fun x S2 => match x with
  | .ref i => (match stO S2 i with
    | some (n, fs) => if n ∈ ns ∧ fs.length < 1000 then .go (.nx ρ) (S2.set i (.obj n (putFA f y fs))) else .bad
    | none => .bad)
  | _ => .bad
theorem ss_setF {f : Str} {ns : List Str} {tx : TE} {dx : DE} (hf : HasF K f ns) (hv : SE W K tv dv) (hx : SE W K tx dx) : SS W K (sFld K tx tv f) (dSetF f ns dv dx) := by
  intro ρ S c σ H D hK k e h
  refine hv ρ S c σ H _ hK k e (Res.post_mono (go_post e h) (fun y S1 h1 => ?_) fun _ _ z => z)
  intro c1 H1 v1 n1 k1 r1
  have e1 := e.nxt n1
  have hK1 := n1.K.trans hK
  refine hx ρ S1 c1 σ H1 _ hK1 k1 e1 (Res.post_mono (go_post e1 (h1.nxt n1)) (fun x S2 h2 => ?_) fun _ _ z => z)
  intro c2 H2 v2 n2 k2 r2
  have e2 := e1.nxt n2
  have hK2 := n2.K.trans hK1
  have h2 := h2.nxt n2
  split at h2
  next i =>
    split at h2
    next n fs q =>
      split at h2
      next hn =>
        obtain ⟨a, rfl, ha, dx, gs, hw, rf⟩ := k2.obj r2 (stO_eq.mp q)
        obtain ⟨hc, hna⟩ := hf n hn.1
        have ek : He.ga c2.K n = He.ga K n := by rw [hK2]
        rw [ek] at hw
        refine ⟨a, _, dx, gs, rfl, hw, hc, hna, by rw [← rf.len]; exact hn.2, ?_⟩
        rw [← ek]
        exact (show GoodN c2 H2 D.nx ρ _ from h2) c2 _ σ (k2.nxtSet ha ⟨_, hw, trivial⟩) (k2.setO ha hw (rf.put (r1.nxt n2))) (e2.nxt (k2.nxtSet ha ⟨_, hw, trivial⟩))
      next => exact False.elim h2
    next => exact False.elim h2
  next => exact False.elim h2
end
/-! ### C(e, ..): a new object -/
section
variable {X : Cx} {CX : CXT} {k : Nat} {f C : Addr} {fd : FuncData} {ps : List Str} {sp : Sp} {E : L2.St → XK} {x : Str} {p pos : Pos} {e : Expr} {es : List Expr} {t : TA}
theorem run_makeB {pins : List (Addr × Obj)} {σ : L2.St} {H : Hp} {s : Shared} {Q : VK} {us : List Value} {vs : List V} (M : Mk X.K C f) (F : FnOk X.prog X.w X.K X.mg X.base CX k f fd ps sp) (hr : Room (k + 1) X.A) (hb : Binds X.K fd ps [])
    (hx : ∀ σ, PassesAt CX X σ (E σ)) (I : L2.Inv X pins σ H s) (r : Vals vs us)
    (h : ∀ x dx, H x = none → H dx = none → dx ≠ x → sp (.ref x :: vs) (upd (upd H dx (.own x)) x (.ins C dx [])) (fun v H2 => v = .non ∧ Q (.ref x) H2) (E σ)) :
    wpAny (model X.prog X.w) X.A (call (.ref C) us) (EP X pins σ Q) X.xe s := by
  have hq := h (s.heap.objs.size + 1) s.heap.objs.size (I.hok.fresh (Nat.le_succ _)) (I.hok.fresh (Nat.le_refl _)) (Nat.ne_of_lt (Nat.lt_succ_self _))
  have I2 := Inv.made (C := C) I
  have r2 : Vals (V.ref (s.heap.objs.size + 1) :: vs) (Value.ref (s.heap.objs.size + 1) :: us) := .cons rfl r
  have hl : (Value.ref (s.heap.objs.size + 1) :: us).length = ps.length := by
    have e := r2.length
    rw [F.len _ _ _ _ hq] at e
    exact e.symm
  have b := hb _ (Value.ref (s.heap.objs.size + 1) :: us) I2.kIn (by rw [List.append_nil]; exact hl)
  rw [List.append_nil] at b
  refine wpAny_call (make_map (f := f) I.kIn M.makes M.init (beq_iff_eq.mp M.fn) (codeAny_mono (F.run _ X.stack _ _ ⟨Value.ref (s.heap.objs.size + 1) :: us, []⟩ (Value.ref (s.heap.objs.size + 1) :: us) _ _ (E σ) (hr.make C us [])
    (I2.env0.make C us []) b r2 hq) fun r s' hq' => ?_))
  cases r with
  | error e => exact hx σ pins _ _ e s' I2 hq'
  | ok fl =>
    cases fl with
    | ret u =>
      obtain ⟨v, H', I3, rv, ev, q3⟩ := I2.after hq'
      subst ev
      exact ⟨rv, ⟨V.ref (s.heap.objs.size + 1), H', I3, rfl, q3⟩⟩
    | next => exact False.elim hq'
    | brk => exact False.elim hq'
    | cont => exact False.elim hq'
def tMakeB (C : Addr) (sp : Sp) (E : L2.St → XK) (t : TA) : TE := fun σ H Q => t σ H fun vs H2 => ∀ x dx, H2 x = none → H2 dx = none → dx ≠ x → sp (.ref x :: vs) (upd (upd H2 dx (.own x)) x (.ins C dx [])) (fun v H3 => v = .non ∧ Q (.ref x) H3) (E σ)
theorem pe_makeB (M : Mk X.K C f) (F : FnOk X.prog X.w X.K X.mg X.base CX k f fd ps sp) (hr : Room (k + 1) X.A) (hg : Gl X x) (hm : X.mg x = some (.ref C)) (hb : Binds X.K fd ps []) (hx : ∀ σ, PassesAt CX X σ (E σ))
    (ha : PA X (e :: es) t) (hdb : (x == ("__debug__" : Str)) = false := by decide) (he : starEach (e :: es) X.env = (false, eval e X.env) :: starEach es X.env := by rfl) (hpl : (backTo pos (starEach es X.env)).any (·.1) = false := by rfl) :
    PE X (.Call (.Name x p) (e :: es) [] pos) (tMakeB C sp E t) := by
  refine ⟨fun pins s σ H Q I h => ?_⟩
  refine wpAny_Call_Name_kw (ld_glob I hg hm ?_ hdb)
  refine PySem.W.callWith_K (h₀ := X.base) I.ok.mod.kin M.kp (thn (ha.run pos pins s σ H _ I h) fun us s1 ⟨vs, H1, I1, r, q⟩ => ⟨I1.kIn, ?_⟩) he hpl
  exact run_makeB M F hr hb hx I1 r q
end
section
variable {W : WX} {K : PySem.W.Frag} {c c' : Co} {S : Store} {H H' : Hp} {x y z : AV} {u v : V} {xs ys : List AV} {us vs : List V} {te ta tb td tk tv : TE} {da db dd dz de dv : DE} {tA : TA} {dA : DA} {tT : TT} {dT : DT} {t : TS} {ds : DS}
def dMake (C : Str) (n : Nat) (F : FD) (dA : DA) : DE := fun ρ S => (dA ρ S).bind fun avs S1 => if avs.length + 1 = n then (F (.ref S1.length :: avs) (S1 ++ [.obj C []])).bind fun r S2 => match r with
  | .non => .ok (.ref S1.length) S2
  | _ => .bad else .bad
theorem se_make {C : Str} {n : Nat} {F : FD} (hA : SA W K tA dA) : SE W K (tMakeB (He.ga K C) (conc K n F) (WE W) tA) (dMake C n F dA) := by
  intro ρ S c σ H Q hK k e h
  refine hA ρ S c σ H _ hK k e (Res.post_mono (Res.post_bind.mp h) (fun avs S1 h1 => ?_) fun _ _ z => z)
  intro c1 H1 vs n1 k1 rs
  split at h1
  next hl =>
    intro x dx hx hdx hne
    have hK1 := n1.K.trans hK
    have nd := Nxt.new (c := c1) (o := .own x) hdx
    have kd := k1.new (o := .own x) hdx
    have hx1 : (upd H1 dx (.own x)) x = none := by rw [upd_ne hne.symm]; exact hx
    have na := Nxt.add kd (o := .ins (He.ga K C) dx []) hx1
    have n2 := nd.trans na
    have k2 : Cor (c1.add x) (S1 ++ [.obj C []]) (upd (upd H1 dx (.own x)) x (.ins (He.ga K C) dx [])) :=
      kd.add hx1 ⟨dx, [], by rw [upd_same]; show some _ = some (HO.ins (He.ga c1.K C) dx []); rw [hK1], .nil⟩
    have at_ : (c1.add x).tr[S1.length]? = some x := Co.add_at kd
    refine ⟨c1.add x, _, .ref S1.length :: avs, n2.K.trans hK1, k2, .cons (.ref at_) (rs.nxt n2), by rw [List.length_cons]; exact hl, ?_⟩
    refine Res.post_mono (Res.post_bind.mp h1) (fun r S2 h2 => ?_) fun _ _ z => z.nxt (n1.trans n2)
    intro c3 H3 v n3 k3 rv
    cases r with
    | non =>
      cases rv
      exact ⟨rfl, h2 c3 H3 _ ((n1.trans n2).trans n3) k3 (.ref (n3.at at_))⟩
    | _ => exact False.elim h2
  next => exact False.elim h1
/-! ### {None: None} -/
def tNN : TE := fun _ H Q => ∀ p, H p = none → Q (.ref p) (upd H p (nodO p [(none, none)]))
theorem pe_NN {X : Cx} {k1 k2 : Nat} {pos p1 p2 : Pos} : PE X (.Dict [some (.Constant .none k1 p1)] [.Constant .none k2 p2] pos) tNN := by
  refine ⟨fun pins s σ H Q I q => ?_⟩
  have hn := I.hok.fresh (Nat.le_refl s.heap.objs.size)
  have I1 := I.laid (a := s.heap.objs.size) (o := .dK []) (h' := s.heap.push { cls := .type "dict", data := .dict #[] }) (t' := s.toks) (fun _ _ q => Heap.get?_push_of_some _ q) (Nat.le_refl _) (dk_empty s.heap I.big)
  have hp : PPs X pos [some (.Constant .none k1 p1)] [.Constant .none k2 p2] [(tC .non, tC .non)] := pps_cons pe_non pe_non pps_nil
  refine wpAny_Dict_walk (knd := noneKind X.prog X.w) rfl rfl (by simp) (by show 1 ≤ 15; decide) (thn (hp.run pins _ σ (upd H s.heap.objs.size (.dK [])) (fun ps H2 => ps = [(V.non, V.non)] ∧ H2 = upd H s.heap.objs.size (.dK [])) I1 ⟨rfl, rfl⟩) fun ws s2 ⟨ps, H2, I2, rel, ep, eH⟩ => ?_)
  subst ep eH
  cases rel with
  | @cons _ b _ bs r t =>
    cases t
    obtain ⟨b1, b2⟩ := b
    obtain ⟨h1, h2⟩ := r
    have h1 : b1 = Value.none := h1
    have h2 : b2 = Value.none := h2
    subst h1 h2
    obtain ⟨z, hd, vs0, r0, dd⟩ := dk_of I2.hok (upd_same (H := H) (a := s.heap.objs.size) (o := .dK []))
    cases r0
    have d0 : s2.heap.DictOf (noneKind X.prog X.w) s.heap.objs.size [] := by
      obtain ⟨o, es, ep, ho, hx, hdt, hk, hp, hn⟩ := dd
      have he : es.toList = [] := by
        generalize es.toList = l at hp
        cases hp
        rfl
      exact ⟨o, es, ep, ho, hx, hdt, fun e hm => (by rw [← Array.mem_toList_iff, he] at hm; cases hm), by rw [he]; exact .nil, List.nodup_nil⟩
    refine ⟨[(none, Value.none)], ⟨rfl, rfl, trivial⟩, d0, fun h' dd' hs => ⟨.ref s.heap.objs.size, upd (upd H s.heap.objs.size (.dK [])) s.heap.objs.size (nodO s.heap.objs.size [(none, none)]), ?_, rfl, ?_⟩⟩
    · have he : ∃ q, h'.get? s.heap.objs.size = some q := let ⟨q, _, _, hq, _⟩ := dd'; ⟨q, hq⟩
      exact d_write I2 (by rw [upd_same]; exact True.intro) hs he (nod_st (kvs := [(none, none)]) (vs := [(none, Value.none)]) (by show 1 ≤ sizeLine; decide) hd (.cons ⟨rfl, rfl⟩ .nil) dd')
    · have : upd (upd H s.heap.objs.size (.dK [])) s.heap.objs.size (nodO s.heap.objs.size [(none, none)]) = upd H s.heap.objs.size (nodO s.heap.objs.size [(none, none)]) := by
        funext b
        by_cases z : b = s.heap.objs.size
        · rw [z, upd_same, upd_same]
        · rw [upd_ne z, upd_ne z, upd_ne z]
      rw [this]
      exact q _ hn
def dNN : DE := fun _ S => .ok (.ref S.length) (S ++ [.nod [(none, none)]])
theorem se_NN : SE W K tNN dNN := by
  intro ρ S c σ H Q hK k e h
  intro p hp
  have n := Nxt.add k (o := nodO p [(none, none)]) hp
  exact (show Good c H Q (.ref S.length) _ from h) (c.add p) _ _ n (k.add hp upd_same) (.ref (Co.add_at k))
end
/-! ### len(o), x in o by the class's own methods -/
section
variable {X : Cx} {CX : CXT} {k : Nat} {f C : Addr} {fd : FuncData} {ps : List Str} {sp : Sp} {E : L2.St → XK}
def rLenO (C : Addr) (sp : Sp) (E : XK) : List V → Hp → VK → Prop := fun xs H Q => ∃ a dx fs, xs = [.ref a] ∧ H a = some (.ins C dx fs) ∧ sp [.ref a] H (fun v H2 => ∃ n : Nat, v = .int n ∧ n ≤ 1000000 ∧ Q (.int n) H2) E
theorem run_in1 {A : Around} {pins : List (Addr × Obj)} {σ : L2.St} {H : Hp} {s : Shared} {Q : VK} {us : List Value} {vs : List V} {E : XK} (F : FnOk X.prog X.w X.K X.mg X.base CX k f fd ps sp) (hr : Room k A) (hA : Env0 X.prog X.w X.K X.mg X.base A X.stack s H) (hb : Binds X.K fd ps []) (hx : PassesAt CX X σ E)
    (I : L2.Inv X pins σ H s) (r : Vals vs us) (h : sp vs H Q E) : wpAny (model X.prog X.w) A (call (.ref f) us) (EP X pins σ Q) X.xe s := by
  have hl : us.length = ps.length := by rw [← r.length]; exact F.len _ _ _ _ h
  have b := hb s us I.kIn (by rw [List.append_nil]; exact hl)
  rw [List.append_nil] at b
  refine wpAny_call (codeAny_mono (F.run A X.stack s H ⟨us, []⟩ us vs Q E hr hA b r h) fun r s' hq => ?_)
  cases r with
  | error e => exact hx pins H s e s' I hq
  | ok fl =>
    cases fl with
    | ret u => exact I.after hq
    | next => exact False.elim hq
    | brk => exact False.elim hq
    | cont => exact False.elim hq
theorem cr_lenO {E : XK} {σ0 : L2.St} (hm : Meth X.K C "__len__" f) (F : FnOk X.prog X.w X.K X.mg X.base CX k f fd ps sp) (hr : Room (k + 1) X.A) (hb : Binds X.K fd ps []) (hx : ∀ σ, PassesAt CX X σ E) : CallR X (.builtin "len") (rLenO C sp E) := by
  intro pins s σ H xs us Q I r q
  obtain ⟨a, dx, fs, rfl, ha, q⟩ := q
  obtain ⟨u, rfl, rx⟩ := vals1 r
  obtain rfl : u = Value.ref a := rx
  obtain ⟨mA, O, _, _, _, _⟩ := ins_get I.hok ha
  obtain ⟨od, J, _⟩ := O.look
  refine Calls.call_function_entry kind_len plain_len entry_len (args_len1 _) ?_
  unfold Builtin.«len»
  refine wpAny_bind (m := oneArg "len" _) (wpAny_pure ?_)
  refine wpAny_bind (m := callSpecial? (.ref a) (Str.ofString "__len__")) (PySem.W.special_fn I.kIn J hm.at_ (beq_iff_eq.mp hm.fn) (wpAny_mono (run_in1 (vs := [.ref a]) F hr.in1 I.env0.in1 hb (hx σ) I (.cons rfl .nil) q) (fun v s' hq => ?_) fun _ _ y => y))
  obtain ⟨x, H2, I2, rv, n, rfl, hn, q2⟩ := hq
  obtain ⟨t, rfl⟩ : ∃ t, v = Value.int n t := rv
  refine wpAny_bind (wpAny_holding (wpAny_pure ?_))
  refine wpAny_bind (wpAny_letGo ?_)
  show wpAny _ _ (if ((n : Nat) : Int) < 0 then _ else _) _ _ _
  rw [if_neg (by omega)]
  show wpAny _ _ (if ((n : Nat) : Int) ≥ 2 ^ 63 then _ else _) _ _ _
  rw [if_neg (by omega)]
  exact wpAny_bind (wpAny_mkInt (wpAny_pure ⟨_, rfl, .int n, H2, I2.tok _, ⟨_, rfl⟩, q2⟩))
def rInO (C : Addr) (sp : Sp) (E : XK) (neg : Bool) : R2 := fun y x H Q => ∃ a dx fs, x = .ref a ∧ H a = some (.ins C dx fs) ∧ sp [.ref a, y] H (fun v H2 => ∃ b : Bool, v = .bl b ∧ Q (.bl (if neg then !b else b)) H2) E
theorem contains_O {E : XK} {pins : List (Addr × Obj)} {σ : L2.St} {H : Hp} {s : Shared} {a dx : Addr} {fs : List (Str × V)} {y : V} {v : Value} {Q : Bool → Shared → Prop} (hm : Meth X.K C "__contains__" f) (F : FnOk X.prog X.w X.K X.mg X.base CX k f fd ps sp) (hr : Room k X.A) (hb : Binds X.K fd ps []) (hx : ∀ σ, PassesAt CX X σ E)
    (I : L2.Inv X pins σ H s) (ry : RelV y v) (ha : H a = some (.ins C dx fs)) {Q2 : Bool → Hp → Prop} (q : sp [.ref a, y] H (fun v H2 => ∃ b : Bool, v = .bl b ∧ Q2 b H2) E) (hQ : ∀ b s' H2, L2.Inv X pins σ H2 s' → Q2 b H2 → Q b s') :
    wpAny (model X.prog X.w) X.A (contains (.ref a) v) Q X.xe s := by
  obtain ⟨mA, O, _, _, _, _⟩ := ins_get I.hok ha
  obtain ⟨od, J, _⟩ := O.look
  unfold contains
  refine wpAny_holding (wpAny_bind (wpAny_bind (J.type.here ((PySem.W.looks_findIn I.kIn hm.at_).here ?_))))
  rw [if_neg (by simp)]
  refine wpAny_bind (PySem.W.unlessNone_K I.kIn J hm.at_ hm.fn (wpAny_mono (run_in1 (vs := [.ref a, y]) F hr I.env0 hb (hx σ) I (.cons rfl (.cons ry .nil)) q) (fun r s' hq => ?_) fun _ _ y => y))
  obtain ⟨x, H2, I2, rv, b, rfl, q2⟩ := hq
  obtain rfl : r = Value.bool b := rv
  cases b <;> exact wpAny_pure (hQ _ _ _ I2 q2)
theorem op_inO {E : XK} (hm : Meth X.K C "__contains__" f) (F : FnOk X.prog X.w X.K X.mg X.base CX k f fd ps sp) (hr : Room k X.A) (hb : Binds X.K fd ps []) (hx : ∀ σ, PassesAt CX X σ E) : OpR X (compareOp .In) (rInO C sp E false) := by
  intro pins s σ H y x v u Q I ry rx h
  obtain ⟨a, dx, fs, rfl, ha, q⟩ := h
  obtain rfl : u = Value.ref a := rx
  exact wpAny_bind (contains_O hm F hr hb hx I ry ha (Q2 := fun b H2 => Q (.bl b) H2) q fun b s' H2 I2 q2 => wpAny_pure ⟨.bl b, H2, I2, rfl, q2⟩)
theorem op_notInO {E : XK} (hm : Meth X.K C "__contains__" f) (F : FnOk X.prog X.w X.K X.mg X.base CX k f fd ps sp) (hr : Room k X.A) (hb : Binds X.K fd ps []) (hx : ∀ σ, PassesAt CX X σ E) : OpR X (compareOp .NotIn) (rInO C sp E true) := by
  intro pins s σ H y x v u Q I ry rx h
  obtain ⟨a, dx, fs, rfl, ha, q⟩ := h
  obtain rfl : u = Value.ref a := rx
  exact wpAny_bind (contains_O hm F hr hb hx I ry ha (Q2 := fun b H2 => Q (.bl (!b)) H2) q fun b s' H2 I2 q2 => wpAny_pure ⟨.bl (!b), H2, I2, rfl, q2⟩)
end
section
variable {W : WX} {K : PySem.W.Frag} {c c' : Co} {S : Store} {H H' : Hp} {x y z : AV} {u v : V} {xs ys : List AV} {us vs : List V} {te ta tb td tk tv : TE} {da db dd dz de dk dv : DE} {tA : TA} {dA : DA} {tT : TT} {dT : DT} {t : TS} {ds : DS}
/-- len(o): n -/
def asNat : AV → Option AV
  | .int i => if 0 ≤ i ∧ i ≤ 1000000 then some (.int i) else none
  | _ => none
abbrev xNo : XK := fun _ _ _ => False
theorem nox_fall {α : Type} {r : Res α} {g : α → Store → Prop} {X : AV → Store → Prop} (h : r.nox.post g X) (Y : AV → Store → Prop) : r.post g Y := nox_post h
def dLenO (C : Str) (F : FD) (dA : DA) : DE := fun ρ S => (dA ρ S).bind fun avs S1 => match avs with
  | [x] => (match fsOf S1 x with
    | some (cn, _) => if cn = C then (F [x] S1).nox.bind fun r S2 => ofO (asNat r) S2 else .bad
    | none => .bad)
  | _ => .bad
theorem se_lenO {C : Str} {F : FD} (hA : SA W K tA dA) : SE W K (tCB (rLenO (He.ga K C) (conc K 1 F) xNo) tA) (dLenO C F dA) := by
  intro ρ S c σ H Q hK k e h
  refine hA ρ S c σ H _ hK k e (Res.post_mono (Res.post_bind.mp h) (fun avs S1 h1 => ?_) fun _ _ z => z)
  intro c1 H1 vs n1 k1 rs
  split at h1
  next x =>
    split at h1
    next cn fs q =>
      split at h1
      next hc =>
        subst hc
        cases rs with
        | cons r t =>
          cases t
          obtain ⟨a, dx, gs, rfl, h2, rf⟩ := fsOf_at k1 r q
          have hK1 := n1.K.trans hK
          rw [hK1] at h2
          refine ⟨a, dx, gs, rfl, h2, c1, S1, [x], hK1, k1, .cons r .nil, rfl, nox_fall (Res.post_mono (Res.post_bind.mp h1) (fun r2 S2 h3 => ?_) fun _ _ z => z) _⟩
          intro c2 H2 v n2 k2 rv
          obtain ⟨y, hy, g⟩ := ofO_post h3
          unfold asNat at hy
          split at hy
          next i =>
            split at hy
            next hi =>
              cases hy
              cases rv
              refine ⟨i.toNat, by rw [Int.toNat_of_nonneg hi.1], by omega, ?_⟩
              rw [Int.toNat_of_nonneg hi.1]
              exact g c2 H2 _ (n1.trans n2) k2 (.int i)
            next => cases hy
          next => cases hy
      next => exact False.elim h1
    next => exact False.elim h1
  next => exact False.elim h1
/-- x in o -/
def fInO (C : Str) (F : FD) (neg : Bool) : AV → AV → Store → Res AV := fun y x S => match fsOf S x with
  | some (cn, _) => if cn = C then (F [x, y] S).nox.bind fun r S2 => ofO ((asB r).map fun b => .bl (if neg then !b else b)) S2 else .bad
  | none => .bad
def dInO (C : Str) (F : FD) (neg : Bool) (da db : DE) : DE := fun ρ S => (da ρ S).bind fun y S1 => (db ρ S1).bind fun x S2 => fInO C F neg y x S2
theorem se_inO {C : Str} {F : FD} {neg : Bool} (ha : SE W K ta da) (hb : SE W K tb db) : SE W K (tOp (rInO (He.ga K C) (conc K 2 F) xNo neg) ta tb) (dInO C F neg da db) := by
  intro ρ S c σ H Q hK k e h
  refine ha ρ S c σ H _ hK k e (Res.post_mono (Res.post_bind.mp h) (fun y S1 h1 => ?_) fun _ _ z => z)
  intro c1 H1 u n1 k1 ry
  have hK1 := n1.K.trans hK
  refine hb ρ S1 c1 σ H1 _ hK1 k1 (e.nxt n1) (Res.post_mono (Res.post_bind.mp h1) (fun x S2 h2 => ?_) fun _ _ z => z.nxt n1)
  intro c2 H2 v n2 k2 rx
  have hK2 := n2.K.trans hK1
  unfold fInO at h2
  split at h2
  next cn fs q =>
    split at h2
    next hc =>
      subst hc
      obtain ⟨a, dx, gs, rfl, h3, rf⟩ := fsOf_at k2 rx q
      rw [hK2] at h3
      refine ⟨a, dx, gs, rfl, h3, c2, S2, [x, y], hK2, k2, .cons rx (.cons (ry.nxt n2) .nil), rfl, nox_fall (Res.post_mono (Res.post_bind.mp h2) (fun r2 S3 h4 => ?_) fun _ _ z => z) _⟩
      intro c3 H3 w n3 k3 rv
      obtain ⟨z, hz, g⟩ := ofO_post h4
      obtain ⟨b, hb2, rfl⟩ := Option.map_eq_some_iff.mp hz
      obtain rfl := asB_at rv hb2
      exact ⟨b, rfl, g c3 H3 _ ((n1.trans n2).trans n3) k3 (.bl _)⟩
    next => exact False.elim h2
  next => exact False.elim h2
/-! ### {k: v for ..} -/
def dcL (gd : Store → Bool) (dg : DG) (dt : DT) (dk dv : DE) (ρ : Env) : List AV → List (AV × AV) → Store → Res (List (AV × AV))
  | [], acc, S => if gd S then .ok acc S else .bad
  | x :: r, acc, S => if gd S then (match dg x ρ with
    | some ρ1 => (dt ρ1 S).nox.bind fun b S1 => if b = true then (dk ρ1 S1).nox.bind fun y S2 => (dv ρ1 S2).nox.bind fun z S3 => if isKey y = true then dcL gd dg dt dk dv ρ r (putB acc y z) S3 else .bad else dcL gd dg dt dk dv ρ r acc S1
    | none => .bad) else .bad
def ddDc (di : DI) (dg : DG) (dt : DT) (dk dv : DE) (vs : List Nat) : DDc := fun ρ S => (di ρ S).bind fun its S1 => if its.xs.length ≤ lim then dcL its.gd dg dt dk dv (wipeE ρ vs) its.xs [] S1 else .bad
theorem dcL_gd {gd : Store → Bool} {dg : DG} {dt : DT} {dk dv : DE} {ρ : Env} {xs : List AV} {acc : List (AV × AV)} {S : Store} {g : List (AV × AV) → Store → Prop} {x : AV → Store → Prop} (h : (dcL gd dg dt dk dv ρ xs acc S).post g x) : gd S = true := by
  cases xs with
  | nil =>
    unfold dcL at h
    split at h
    · assumption
    · exact False.elim h
  | cons y r =>
    unfold dcL at h
    split at h
    · assumption
    · exact False.elim h
theorem putB_len (ks : List (AV × AV)) (q x : AV) : (putB ks q x).length ≤ ks.length + 1 := by
  unfold putB
  split <;> simp
/-- a dict comprehension over it: Pv by the turn and the heap (the new dict at D within) -/
theorem dc_it {J : It} {n : Nat} {G : Hp → Prop} {Y : Nat → Hp → V → Hp → Prop} (w : Walk J n G Y) {g : TG} {tt : TT} {tk tv : TE} {vs : List Nat} {σ : L2.St} {H1 : Hp} {D : Addr} {Qd : Hp → Prop} (Pv : Nat → Hp → Prop) (h0 : Pv 0 (upd H1 D (.dK []))) (hG : ∀ i H, i ≤ n → Pv i H → G H)
    (hs : ∀ i x H H', i < n → Pv i H → Y i H x H' → g x (wipe σ vs) H' fun σ2 H2 => wipe σ2 vs = wipe σ vs ∧ tt σ2 H2 fun b H3 =>
      if b = true then tk σ2 H3 fun y H4 => tv σ2 H4 fun z H5 => ∃ kvs k, y = kV k ∧ H5 D = some (.dK kvs) ∧ kvs.length < sizeLine ∧ Pv (i + 1) (upd H5 D (.dK (putK kvs k z))) else Pv (i + 1) H3) (hd : ∀ H, Pv n H → Qd H) :
    ∃ W : Nat → Nat → Hp → Prop, (∃ m, W 0 m (upd H1 D (.dK []))) ∧ ∀ i m H, W i m H →
      (J.stop i H ∧ Qd H) ∨ (J.go i H ∧ ∃ Nx : Hp → Prop, (∀ H', Nx H' → ∃ m', m' < m ∧ W (i + 1) m' H') ∧ ∀ x H', J.yld i H x H' → g x (wipe σ vs) H' fun σ2 H2 => wipe σ2 vs = wipe σ vs ∧ tt σ2 H2 fun b H3 =>
        if b = true then tk σ2 H3 fun y H4 => tv σ2 H4 fun z H5 => ∃ kvs k, y = kV k ∧ H5 D = some (.dK kvs) ∧ kvs.length < sizeLine ∧ Nx (upd H5 D (.dK (putK kvs k z))) else Nx H3) := by
  refine ⟨fun i m H => m = n - i ∧ i ≤ n ∧ Pv i H, ⟨n, by simp, Nat.zero_le _, h0⟩, ?_⟩
  rintro i m H ⟨rfl, hi, p⟩
  have q := hG i H hi p
  by_cases hlt : i < n
  · refine .inr ⟨w.goes i H hlt q, Pv (i + 1), fun H' p' => ⟨n - (i + 1), by omega, rfl, hlt, p'⟩, fun x H' y => hs i x H H' hlt p (w.yields i H x H' hlt q y)⟩
  · have e : i = n := by omega
    subst e
    exact .inl ⟨w.stops H q, hd H p⟩
theorem sd_dc {wi : TI} {di : DI} {g : TG} {dg : DG} {tt : TT} {dt : DT} {vs : List Nat} (hi : SI W K wi di) (hg : SG K g dg) (hw : GW vs g) (hm : GM g) (ht : ST W0 K tt dt) (hk : SE W0 K tk dk) (hv : SE W0 K tv dv) : SED W K (tDc wi g tt tk tv vs) (ddDc di dg dt dk dv vs) := by
  intro ρ S c σ H Q hK k e h
  refine hi ρ S c σ H _ hK k e (Res.post_mono (Res.post_bind.mp h) (fun its S1 h1 => ?_) fun _ _ z => z)
  intro c1 H1 J n1 k1 ⟨G, Y, w, hG, hY⟩ D hD
  have e1 := (e.nxt n1).wipe vs
  have hK1 := n1.K.trans hK
  split at h1
  next hl =>
    have hDn := k1.out hD
    let X : AV → Store → Prop := Fall c H (WE W σ)
    let P : Nat → Hp → Prop := fun i H' => ∃ c' S' acc accA, Nxt c1 H1 c' H' ∧ c'.hid D ∧ D ∉ c'.tr ∧ Cor c' S' H' ∧ EnvR c' H' (wipeE ρ vs) (L2.wipe σ vs) ∧ H' D = some (.dK acc) ∧ Relk c' H' accA acc ∧ acc.length ≤ i ∧
      (dcL its.gd dg dt dk dv (wipeE ρ vs) (its.xs.drop i) accA S').post (fun ys S2 => ∀ c2 H0 us p, Nxt c H c2 H0 → Cor c2 S2 H0 → H0 p = none → Relk c2 H0 ys us → Q (.ref p) (upd H0 p (.dK us))) X
    have ne1 : ∀ a, H1 a ≠ none → a ≠ D := fun a h z => h (by rw [z]; exact hD)
    have nh : Nxt c1 H1 (c1.hide D) (upd H1 D (.dK [])) := by
      have n := Nxt.new (c := c1) (o := .dK []) hD
      exact ⟨rfl, rfl, ⟨fun _ h => .inr h, fun a h => h.elim (fun z => .inr (by rw [z]; exact hD)) .inl⟩, ⟨[], by simp [Co.hide], fun _ h => absurd h List.not_mem_nil⟩, n.keep, n.hkeep, n.tup, n.frz, n.live⟩
    refine dc_it w P ?_ ?_ ?_ ?_
    · refine ⟨c1.hide D, S1, [], [], nh, .inl rfl, hDn.1, ?_, e1.nxt nh, upd_same, .nil, Nat.le_refl _, ?_⟩
      · refine ⟨k1.len, k1.nd, fun a ha z => z.elim (fun z => hDn.1 (by rw [← z]; exact ha)) (k1.apart a ha), fun a ha => ?_, fun i o a e1 e2 => ?_⟩
        · rcases ha with z | z
          · rw [z, upd_same]
            simp
          · exact nh.live a (k1.hl a z)
        · have r := k1.at_ i o a e1 e2
          exact r.nxt nh (upd_ne (ne1 a r.isThere))
      · rw [List.drop_zero]
        exact h1
    · rintro i H' hi ⟨c', S', acc, accA, n, hh, ht, k', e', hd, ra, hl, p⟩
      exact hG c' S' H' n.w k' (dcL_gd p)
    · rintro i x H' H2 hi ⟨c', S', acc, accA, n, hh, htr, k', e', hd, ra, hl', p⟩ y
      have gS := dcL_gd p
      obtain ⟨z, hz, n2, k2, r2⟩ := hY i x H' H2 c' S' hi n.w k' gS y
      have hdr : its.xs.drop i = z :: its.xs.drop (i + 1) := by
        obtain ⟨hl2, hz'⟩ := List.getElem?_eq_some_iff.mp hz
        rw [List.drop_eq_getElem_cons hl2, hz']
      rw [hdr] at p
      unfold dcL at p
      rw [if_pos gS] at p
      have hK' := n.K.trans hK1
      cases q : dg z (wipeE ρ vs) with
      | none =>
        rw [q] at p
        exact False.elim p
      | some ρ1 =>
        rw [q] at p
        simp only at p
        refine hm _ _ _ _ _ (hw _ _ _ _ (hg z x (wipeE ρ vs) ρ1 S' c' _ H2 (fun σ2 H3 => ∃ c3, Nxt c' H2 c3 H3 ∧ Cor c3 S' H3 ∧ EnvR c3 H3 ρ1 σ2) hK' k2 (e'.nxt n2) r2 q fun c3 H3 σ3 n3 k3 e3 => ⟨c3, n3, k3, e3⟩)) ?_
        rintro σ2 H3 ⟨hwp, c3, n3, k3, e3⟩
        refine ⟨hwp.trans wipe_wipe, ?_⟩
        have n23 := n2.trans n3
        have hK3 := n23.K.trans hK'
        refine ht ρ1 S' c3 σ2 H3 _ hK3 k3 e3 (Res.post_mono (nox_post (Res.post_bind.mp p)) (fun b S3 g => ?_) fun _ _ z => z)
        intro c4 H4 n4 k4
        have n24 := n23.trans n4
        have hd4 : ∀ {c5 H5}, Nxt c' H' c5 H5 → H5 D = some (.dK acc) := fun n5 => n5.hkeep _ _ hh hd
        have base : ∀ {c5 H5}, Nxt c' H' c5 H5 → c5.hid D ∧ D ∉ c5.tr := fun {c5 H5} n5 => ⟨n5.hid.1 D hh, fun w => by
          obtain ⟨l, el, hl3⟩ := n5.tr
          rw [el] at w
          rcases List.mem_append.mp w with w | w
          · exact htr w
          · have := hl3 D w
            rw [hd] at this
            cases this⟩
        cases b with
        | false =>
          exact ⟨c4, S3, acc, accA, n.trans n24, (base n24).1, (base n24).2, k4, e'.nxt n24, hd4 n24, ra.nxt n24, by omega, g⟩
        | true =>
          have e4 := e3.nxt n4
          refine hk ρ1 S3 c4 σ2 H4 _ (n4.K.trans hK3) k4 e4 (Res.post_mono (nox_post (Res.post_bind.mp g)) (fun w S4 g2 => ?_) fun _ _ z => z)
          intro c5 H5 y5 n5 k5 ry5
          have e5 := e4.nxt n5
          refine hv ρ1 S4 c5 σ2 H5 _ ((n4.trans n5).K.trans hK3) k5 e5 (Res.post_mono (nox_post (Res.post_bind.mp g2)) (fun w2 S5 g3 => ?_) fun _ _ z => z)
          intro c6 H6 v6 n6 k6 r6
          have n26 := (n24.trans n5).trans n6
          have hD6 := hd4 n26
          split at g3
          next hky =>
            obtain ⟨kq, rfl, hkq⟩ := key_rel (ry5.nxt n6) hky
            refine ⟨acc, kq, rfl, hD6, ?_, ?_⟩
            · have : acc.length < lim := by omega
              rw [sizeLine_eq]
              unfold lim at this
              omega
            · obtain ⟨b1, b2⟩ := base n26
              have rp := Relk.put (ry5.nxt n6) r6 hkq (ra.nxt n26)
              have upk : ∀ a, a ≠ D → upd H6 D (.dK (putK acc kq v6)) a = H6 a := fun a ha => upd_ne ha
              have sm : Same2 c6 c6 D H6 (upd H6 D (.dK (putK acc kq v6))) := ⟨rfl, rfl, rfl, fun a _ ho => ⟨fun z => ho.2 (by rw [z]; exact b1), ho⟩, ⟨upk, fun xs z => (by rw [hD6] at z; cases z), fun o u z => (by rw [hD6] at z; cases z)⟩⟩
              have nb := n.trans n26
              have nu : Nxt c1 H1 c6 (upd H6 D (.dK (putK acc kq v6))) := by
                have ou : ∀ a u, H1 a = some u → upd H6 D (.dK (putK acc kq v6)) a = H6 a := fun a u z => upk a (ne1 a (by rw [z]; simp))
                refine ⟨nb.K, nb.ex, nb.hid, nb.tr, fun a u ha z => by rw [ou a u z]; exact nb.keep a u ha z, fun a u ha z => by rw [ou a u z]; exact nb.hkeep a u ha z, fun a u z => by rw [ou a _ z]; exact nb.tup a u z, fun a o u z => by rw [ou a _ z]; exact nb.frz a o u z, fun a z => ?_⟩
                rw [upk a (ne1 a z)]
                exact nb.live a z
              refine ⟨c6, S5, putK acc kq v6, putB accA w w2, nu, b1, b2, ?_, (e'.nxt n26).hid sm, upd_same, rp.hid sm, by have := length_putK acc kq v6; omega, g3⟩
              refine k6.hid sm (fun a ha z => b2 (by rw [← z]; exact ha)) k6.apart fun a ha => ?_
              by_cases z : a = D
              · rw [z, upd_same]
                simp
              · rw [upk a z]
                exact k6.hl a ha
          next => exact False.elim g3
    · rintro H' ⟨c', S', acc, accA, n, hh, htr, k', e', hd, ra, hl', p⟩
      rw [List.drop_length] at p
      unfold dcL at p
      split at p
      · have p : ∀ c2 H0 us p, Nxt c H c2 H0 → Cor c2 S' H0 → H0 p = none → Relk c2 H0 accA us → Q (.ref p) (upd H0 p (.dK us)) := p
        let H0 : Hp := fun a => if a = D then none else H' a
        have h0 : ∀ a, a ≠ D → H0 a = H' a := fun a ha => if_neg ha
        have h0D : H0 D = none := if_pos rfl
        have eH : upd H0 D (.dK acc) = H' := by
          funext a
          by_cases z : a = D
          · rw [z, upd_same, hd]
          · rw [upd_ne z, h0 a z]
        have sm : Same2 c' (c'.unhide D) D H' H0 := ⟨rfl, rfl, rfl, fun a _ ho => ⟨fun z => ho.2 (by rw [z]; exact hh), ho.1, fun z => ho.2 z.2⟩, ⟨h0, fun xs z => (by rw [hd] at z; cases z), fun o u z => (by rw [hd] at z; cases z)⟩⟩
        have nu : Nxt c1 H1 (c'.unhide D) H0 := by
          have ou : ∀ a u, H1 a = some u → H0 a = H' a := fun a u z => h0 a (ne1 a (by rw [z]; simp))
          refine ⟨n.K, n.ex, ⟨fun a z => ⟨fun w => hDn.2 (by rw [← w]; exact z), n.hid.1 a z⟩, fun a z => n.hid.2 a z.2⟩, n.tr, fun a u ha z => by rw [ou a u z]; exact n.keep a u ha z, fun a u ha z => by rw [ou a u z]; exact n.hkeep a u ha z, fun a u z => by rw [ou a _ z]; exact n.tup a u z, fun a o u z => by rw [ou a _ z]; exact n.frz a o u z, fun a z => ?_⟩
          rw [h0 a (ne1 a z)]
          exact n.live a z
        have r := p (c'.unhide D) H0 acc D (n1.trans nu) (k'.hid sm (fun a ha z => htr (by rw [← z]; exact ha)) (fun a ha z => k'.apart a ha z.2) fun a ha => by rw [h0 a ha.1]; exact k'.hl a ha.2) h0D (ra.hid sm)
        rw [eH] at r
        exact r
      · exact False.elim p
  next => exact False.elim h1
end
end Dl
set_option Elab.async false
set_option linter.all false
set_option maxRecDepth 100000
set_option maxHeartbeats 4000000
namespace Dl
open PySem PySem.Spec PyProof.Rows L2 Evl Cm
section
variable {W : WX} {K : PySem.W.Frag} {c c' : Co} {S S2 : Store} {H H' H1 : Hp} {x y z : AV} {u v : V} {xs ys : List AV} {us vs : List V} {te ta tb td tk tv : TE} {da db dd dz de dk dv d : DE} {tA : TA} {dA : DA} {tT : TT} {dT : DT} {t : TS} {ds : DS}
/-! ### a dict is walked: it is locked meanwhile -/
theorem unlock_at {j : Nat} {a : Addr} {kws : List (Key × V)} {od : Obj} {ks2 : List (AV × AV)} (k : Cor c S H) (ha : c.tr[j]? = some a) (hw : H a = some (.dK kws)) (n1 : Nxt c (upd H a (.frz od (.dK kws))) c' H1) (k1 : Cor c' S2 H1) (e : S2[j]? = some (.lkd ks2)) :
    H1 a = some (.frz od (.dK kws)) ∧ Nxt c H c' (upd H1 a (.dK kws)) ∧ Cor c' (S2.set j (.dic ks2)) (upd H1 a (.dK kws)) ∧ Same2 c' c' a H1 (upd H1 a (.dK kws)) := by
  have h1 : H1 a = some (.frz od (.dK kws)) := n1.frz a od _ upd_same
  have hm : a ∈ c.tr := List.mem_of_getElem? ha
  have ha' := n1.at ha
  have hm' : a ∈ c'.tr := List.mem_of_getElem? ha'
  have up : ∀ b, b ≠ a → upd H1 a (.dK kws) b = H1 b := fun b hb => upd_ne hb
  have up0 : ∀ b, b ≠ a → upd H a (.frz od (.dK kws)) b = H b := fun b hb => upd_ne hb
  have none0 : ∀ b, upd H a (.frz od (.dK kws)) b = none → H b = none := fun b hb => by
    by_cases z : b = a
    · rw [z, upd_same] at hb
      cases hb
    · rw [up0 b z] at hb
      exact hb
  have same : Same2 c' c' a H1 (upd H1 a (.dK kws)) := ⟨rfl, rfl, rfl, fun b _ ho => ⟨fun z => ho.1 (by rw [z]; exact hm'), ho⟩, ⟨up, fun xs z => (by rw [h1] at z; cases z), fun o u z => (by rw [h1] at z; cases z)⟩⟩
  refine ⟨h1, ⟨n1.K, n1.ex, ⟨n1.hid.1, fun b hb => (n1.hid.2 b hb).imp id (none0 b)⟩, ?_, fun b o ho hb => ?_, fun b o ho hb => ?_, fun b xs hb => ?_, fun b o w hb => ?_, fun b hb => ?_⟩, ?_, same⟩
  · obtain ⟨l, e1, e2⟩ := n1.tr
    exact ⟨l, e1, fun b hb => none0 b (e2 b hb)⟩
  · have z : b ≠ a := fun z => ho.1 (by rw [z]; exact hm)
    rw [up b z]
    exact n1.keep b o ho (by rw [up0 b z]; exact hb)
  · have z : b ≠ a := fun z => k.apart a hm (by rw [← z]; exact ho)
    rw [up b z]
    exact n1.hkeep b o ho (by rw [up0 b z]; exact hb)
  · have z : b ≠ a := fun z => by rw [z, hw] at hb; cases hb
    rw [up b z]
    exact n1.tup b xs (by rw [up0 b z]; exact hb)
  · have z : b ≠ a := fun z => by rw [z, hw] at hb; cases hb
    rw [up b z]
    exact n1.frz b o w (by rw [up0 b z]; exact hb)
  · by_cases z : b = a
    · rw [z, upd_same]
      simp
    · rw [up b z]
      exact n1.live b (by rw [up0 b z]; exact hb)
  · refine ⟨by rw [List.length_set]; exact k1.len, k1.nd, k1.apart, fun b hb => ?_, fun i q b e1 e2 => ?_⟩
    · by_cases z : b = a
      · rw [z, upd_same]
        simp
      · rw [up b z]
        exact k1.hl b hb
    · by_cases z : i = j
      · subst z
        rw [ha'] at e2
        cases e2
        rw [List.getElem?_set_self (List.getElem?_eq_some_iff.mp e).1] at e1
        cases e1
        obtain ⟨od2, kws2, h2, r2⟩ := k1.at_ i _ a e ha'
        rw [h1] at h2
        cases h2
        exact ⟨kws, upd_same, r2.hid same⟩
      · rw [List.getElem?_set_ne (Ne.symm z)] at e1
        have nb : b ≠ a := fun w => z ((List.getElem?_inj (List.getElem?_eq_some_iff.mp e2).1 k1.nd).mp (by rw [e2, ha', w]))
        exact (k1.at_ i q b e1 e2).hid same nb
theorem lock_at {j : Nat} {ks : List (AV × AV)} (k : Cor c S H) (e : stD S j = some ks) : ∃ a kws, c.tr[j]? = some a ∧ H a = some (.dK kws) ∧ ∀ od, Nxt c H c (upd H a (.frz od (.dK kws))) ∧ Cor c (S.set j (.lkd ks)) (upd H a (.frz od (.dK kws))) := by
  have e := stD_eq.mp e
  have hl := (List.getElem?_eq_some_iff.mp e).1
  rw [k.len] at hl
  have ha : c.tr[j]? = some c.tr[j] := List.getElem?_eq_getElem hl
  obtain ⟨kws, hw, rk⟩ := k.at_ j _ _ e ha
  refine ⟨_, kws, ha, hw, fun od => ?_⟩
  have n := k.nxtSet ha ⟨_, hw, trivial⟩ (o := .frz od (.dK kws))
  exact ⟨n, k.set ha ⟨_, hw, trivial⟩ ⟨od, kws, upd_same, rk.nxt n⟩⟩
/-- the dict is unlocked again -/
def unlk {α : Type} (j : Nat) (r : Res α) : Res α := r.nox.bind fun a S2 => match S2[j]? with
  | some (.lkd ks2) => .ok a (S2.set j (.dic ks2))
  | _ => .bad
def dLock (dd d : DE) : DE := fun ρ S => match dd ρ S with
  | .ok (.ref j) _ => (match stD S j with
    | some ks => unlk j (d ρ (S.set j (.lkd ks)))
    | none => .bad)
  | _ => .bad
theorem se_lock (dd : DE) (h : SE W K te d) : SE W K (tLockE te) (dLock dd d) := by
  intro ρ S c σ H Q hK k e q
  unfold dLock at q
  split at q
  next j S0 _ =>
    split at q
    next ks hk =>
      obtain ⟨a, kws, ha, hw, hod⟩ := lock_at k hk
      refine ⟨a, .dK kws, hw, trivial, fun od => ?_⟩
      obtain ⟨n0, k0⟩ := hod od
      refine h ρ _ c σ _ _ hK k0 (e.nxt n0) (nox_post (Res.post_mono (Res.post_bind.mp q) (fun x S2 g => ?_) fun _ _ z => z))
      intro c' H1 v n1 k1 r1
      split at g
      next ks2 h2 =>
        obtain ⟨z1, z2, z3, z4⟩ := unlock_at k ha hw n1 k1 h2
        exact ⟨z1, g c' _ v z2 z3 (r1.hid z4)⟩
      next => exact False.elim g
    next => exact False.elim q
  next => exact False.elim q
def unlkS (j : Nat) (r : RS) : RS := match r with
  | .go (.nx ρ) S2 => (match S2[j]? with
    | some (.lkd ks2) => .go (.nx ρ) (S2.set j (.dic ks2))
    | _ => .bad)
  | .go (.rt v) S2 => (match S2[j]? with
    | some (.lkd ks2) => .go (.rt v) (S2.set j (.dic ks2))
    | _ => .bad)
  | _ => .bad
def dLockS (dd : DE) (ds : DS) : DS := fun ρ S => match dd ρ S with
  | .ok (.ref j) _ => (match stD S j with
    | some ks => unlkS j (ds ρ (S.set j (.lkd ks)))
    | none => .bad)
  | _ => .bad
theorem ss_lock (dd : DE) (h : SS W0 K t ds) : SS W K (tLock t) (dLockS dd ds) := by
  intro ρ S c σ H D hK k e q
  unfold dLockS at q
  split at q
  next j S0 _ =>
    split at q
    next ks hk =>
      obtain ⟨a, kws, ha, hw, hod⟩ := lock_at k hk
      refine ⟨a, .dK kws, hw, trivial, fun od => ?_⟩
      obtain ⟨n0, k0⟩ := hod od
      refine h ρ _ c σ _ _ hK k0 (e.nxt n0) ?_
      unfold unlkS at q
      split at q
      next ρ2 S2 hq =>
        rw [hq]
        split at q
        next ks2 h2 =>
          intro c' H1 σ1 n1 k1 e1
          obtain ⟨z1, z2, z3, z4⟩ := unlock_at k ha hw n1 k1 h2
          exact ⟨z1, (show GoodN c H D.nx ρ2 _ from q) c' _ σ1 z2 z3 (e1.hid z4)⟩
        next => exact False.elim q
      next v S2 hq =>
        rw [hq]
        split at q
        next ks2 h2 =>
          intro c' H1 w n1 k1 r1
          obtain ⟨z1, z2, z3, z4⟩ := unlock_at k ha hw n1 k1 h2
          exact ⟨z1, (show Good c H D.rt v _ from q) c' _ w z2 z3 (r1.hid z4)⟩
        next => exact False.elim q
      next => exact False.elim q
    next => exact False.elim q
  next => exact False.elim q
theorem Relk.atK : ∀ {ks : List (AV × AV)} {kws : List (Key × V)} {i : Nat} {q : Key × V}, Relk c H ks kws → kws[i]? = some q → ∃ p, ks[i]? = some p ∧ Rel c H p.1 (kV q.1) ∧ Rel c H p.2 q.2
  | _, _, _, _, .nil, e => by simp at e
  | _, _, 0, q, .cons r1 r2 _, e => by
    cases e
    exact ⟨_, rfl, r1, r2⟩
  | _, _, i + 1, q, .cons _ _ t, e => by
    obtain ⟨p, h1, h2⟩ := Relk.atK (i := i) (q := q) t (by simpa using e)
    exact ⟨p, by simpa using h1, h2⟩
theorem Relk.lenK : ∀ {ks : List (AV × AV)} {kws : List (Key × V)}, Relk c H ks kws → ks.length = kws.length
  | _, _, .nil => rfl
  | _, _, .cons _ _ t => congrArg (· + 1) (Relk.lenK t)
/-- .. in d.items(), d locked -/
def diItems (dd : DE) : DI := fun ρ S => (dd ρ S).bind fun x S1 => match x with
  | .ref j => (match S1[j]? with
    | some (.lkd ks) => .ok ⟨ks.map fun p => .tup false [p.1, p.2], fun _ => true⟩ S1
    | _ => .bad)
  | _ => .bad
theorem si_items (h : SE W K td dd) : SI W K (iItems td) (diItems dd) := by
  intro ρ S c σ H R hK k e q
  refine h ρ S c σ H _ hK k e (Res.post_mono (Res.post_bind.mp q) (fun x S1 g => ?_) fun _ _ z => z)
  intro c1 H1 v n1 k1 r1
  split at g
  next j =>
    split at g
    next ks hj =>
      obtain ⟨a, rfl, ha, od, kws, hw, rk⟩ := k1.obj r1 hj
      refine ⟨a, od, kws, rfl, hw, g c1 H1 _ n1 k1 ⟨fun H => H a = some (.frz od (.dK kws)), YPair (fun i => kws[i]?.map fun kv => kV kv.1) (fun i => kws[i]?.map Prod.snd), ?_, fun c S H n _ _ => n.frz a od _ hw, fun i x H H' c S hi n k _ y => ?_⟩⟩
      · have hl : (ks.map fun p => AV.tup false [p.1, p.2]).length = kws.length := by rw [List.length_map, rk.lenK]
        show Walk (Iti a od kws) (ks.map fun p => AV.tup false [p.1, p.2]).length _ _
        rw [hl]
        exact walk_items
      · have hi : i < ks.length := by
          have : i < (ks.map fun p => AV.tup false [p.1, p.2]).length := hi
          rwa [List.length_map] at this
        have hi2 : i < kws.length := by rw [← rk.lenK]; exact hi
        obtain ⟨p, hp, rp1, rp2⟩ := (rk.nxw n).atK (List.getElem?_eq_getElem hi2)
        obtain ⟨z1, z2, z3⟩ := pair_ok (x := p.1) (y := p.2) k y (fun w hw => by
          rw [List.getElem?_eq_getElem hi2] at hw
          cases hw
          exact rp1) (fun w hw => by
          rw [List.getElem?_eq_getElem hi2] at hw
          cases hw
          exact rp2)
        exact ⟨_, by show (ks.map fun p => AV.tup false [p.1, p.2])[i]? = _; rw [List.getElem?_map, hp]; rfl, z1, z2, z3⟩
    next => exact False.elim g
  next => exact False.elim g
/-- .. in d, d locked -/
def diKeys (dd : DE) : DI := fun ρ S => (dd ρ S).bind fun x S1 => match x with
  | .ref j => (match S1[j]? with
    | some (.lkd ks) => .ok ⟨ks.map (·.1), fun _ => true⟩ S1
    | _ => .bad)
  | _ => .bad
theorem si_keys (h : SE W K td dd) : SI W K (iKeys td) (diKeys dd) := by
  intro ρ S c σ H R hK k e q
  refine h ρ S c σ H _ hK k e (Res.post_mono (Res.post_bind.mp q) (fun x S1 g => ?_) fun _ _ z => z)
  intro c1 H1 v n1 k1 r1
  split at g
  next j =>
    split at g
    next ks hj =>
      obtain ⟨a, rfl, ha, od, kws, hw, rk⟩ := k1.obj r1 hj
      refine ⟨a, od, rfl, .inl ⟨kws, hw, g c1 H1 _ n1 k1 ⟨fun H => H a = some (.frz od (.dK kws)), (fun i H x H' => H' = H ∧ ∃ k v, kws[i]? = some (k, v) ∧ x = kV k), ?_, fun c S H n _ _ => n.frz a od _ hw, fun i x H H' c S hi n k _ y => ?_⟩⟩⟩
      · have hl : (ks.map (·.1)).length = kws.length := by rw [List.length_map, rk.lenK]
        show Walk (Itk a od kws) (ks.map (·.1)).length _ _
        rw [hl]
        exact walk_keys
      · obtain ⟨rfl, q, w, hq, rfl⟩ := y
        obtain ⟨p, hp, rp1, rp2⟩ := (rk.nxw n).atK hq
        exact ⟨p.1, by show (ks.map (·.1))[i]? = _; rw [List.getElem?_map, hp]; rfl, Nxt.refl _ _, k, rp1⟩
    next => exact False.elim g
  next => exact False.elim g
end
end Dl
set_option Elab.async false
set_option linter.all false
set_option maxRecDepth 100000
set_option maxHeartbeats 4000000
namespace Dl
open PySem PySem.Spec PyProof.Rows L2 Evl Cm
/-! ### the rules with the text told by itself -/
section
variable {X : Cx} {K : PySem.W.Frag} (hK : X.K = K)
include hK
theorem k_eq (hu : X.A.units + 65 < cLine) : OpR X (compareOp .Eq) (rEqA K false) := hK ▸ op_eqA hu
theorem k_ne (hu : X.A.units + 65 < cLine) : OpR X (compareOp .NotEq) (rEqA K true) := hK ▸ op_neA hu
theorem k_in (hu : X.A.units + 65 < cLine) : OpR X (compareOp .In) (rInA K false) := hK ▸ op_inA hu
theorem k_notIn (hu : X.A.units + 65 < cLine) : OpR X (compareOp .NotIn) (rInA K true) := hK ▸ op_notInA hu
theorem k_add : OpR X (binaryOp .Add) (rAddA K) := hK ▸ op_addA
theorem k_ix (hu : X.A.units + 65 < cLine) : IxR X (rIxA K) := hK ▸ ix_any hu
theorem k_sl : SlR X (rSlAny K) := hK ▸ sl_any
theorem k_len : CallR X (.builtin "len") (rLenA K) := hK ▸ call_lenA
theorem k_tup : CallR X (.type "tuple") (rTupF K) := hK ▸ call_tupF
theorem k_list : CallR X (.type "list") (fun xs H Q => ∃ p ys, xs = [.ref p] ∧ (SqL K H p ys ∨ SqT K H p ys) ∧ ∀ l, H l = none → Q (.ref l) (upd H l (.lst ys))) := hK ▸ call_list_of
theorem k_isi : CallR X (.builtin "isinstance") (rIsi K) := hK ▸ call_isi
theorem k_all (hc : X.calm = true) : CallR X (.builtin "all") (rAll K) := hK ▸ cr_all hc
theorem k_any (hc : X.calm = true) : CallR X (.builtin "any") (rAny K) := hK ▸ cr_any hc
theorem k_sum (hc : X.calm = true) : CallR X (.builtin "sum") (rSum K) := hK ▸ cr_sum hc
theorem k_dictT (hc : X.calm = true) : CallR X (.type "dict") (rDictT K) := hK ▸ call_dictT hc
theorem k_fld {e : Expr} {ta : TE} {f : Str} {pos : Pos} (he : PE X e ta) (hb : attributeBase e f X.env (eval e X.env) = eval e X.env := by rfl) : PE X (.Attribute e f pos) (tFld K ta f) := hK ▸ pe_fld he hb
theorem k_setF {o value : Expr} {f : Str} {pos pos' : Pos} {ta tv : TE} (ha : PE X o ta) (hv : PE X value tv) (hs : swapsWith value (some (.Attribute o f pos')) pos.line X.env = pure false := by rfl) : PS X (.Assign [.Attribute o f pos'] value pos) (sFld K ta tv f) := hK ▸ ps_fld ha hv hs
theorem k_truth {a : Expr} {ta : TE} (ha : PE X a ta) (he : ∀ whole, isTrue a X.env whole = (do let v ← whole; standAt a.pos; holding [v] (truthy v)) := by intro _; rfl) : PT X a (fun σ H Q => ta σ H fun x H' => ∃ k, TruV K x H' k ∧ Q k H') := hK ▸ pt_truth ha he
theorem k_each {tg l : Expr} {tl : TE} (hl : PE X l tl) : PI X tg l (iAny K tl) := hK ▸ pi_any hl
theorem k_en {e : Expr} {ta : TA} {p pos tpos : Pos} {elts : List Expr} {kk : Nat} (hg : Gl X "enumerate") (hm : X.mg "enumerate" = none) (ha : PA X [e] ta) (hs : starEach [e] X.env = [(false, eval e X.env)] := by rfl) : PI X (.Tuple elts kk tpos) (.Call (.Name "enumerate" p) [e] [] pos) (iEnA K ta) := hK ▸ pi_enA hg hm ha hs
theorem k_zip {e e2 : Expr} {ta : TA} {p pos tpos : Pos} {elts : List Expr} {kk : Nat} (hg : Gl X "zip") (hm : X.mg "zip" = none) (ha : PA X [e, e2] ta)
    (hs : starEach [e, e2] X.env = (false, eval e X.env) :: starEach [e2] X.env := by rfl) (hpl : (backTo pos (starEach [e2] X.env)).any (·.1) = false := by rfl) : PI X (.Tuple elts kk tpos) (.Call (.Name "zip" p) [e, e2] [] pos) (iZpA K ta) := hK ▸ pi_zpA hg hm ha hs hpl
theorem k_tIx {o e : Expr} {to : TE} {t : TA} {apos cpos : Pos} (ho : PE X o to) (ha : PA X [e] t) (hbase : attributeBase o "index" X.env (eval o X.env) = eval o X.env := by rfl) (hline : (apos.endLine == cpos.line) = true := by rfl) (hs : starEach [e] X.env = [(false, eval e X.env)] := by rfl) :
    PE X (.Call (.Attribute o "index" apos) [e] [] cpos) (tTIx K to t) := hK ▸ pe_tIx ho ha hbase hline hs
theorem k_bm {T id : String} {name : Str} {r : V → List V → Hp → VK → Prop} {o e : Expr} {es : List Expr} {to : TE} {t : TA} {apos cpos : Pos} (pa : PlainAttrs T) (slot : Slot T name id) (hty : typeOf (.builtin id) = pure (.type "method_descriptor")) (hm : MtR X id r) (ho : PE X o to) (ha : PA X (e :: es) t)
    (hbase : attributeBase o name X.env (eval o X.env) = eval o X.env := by rfl)
    (hfew : ((backTo cpos (starEach (e :: es) X.env)).all (fun x => !x.1) && (backToKw cpos (keywordEach [] X.env)).all (fun x => x.1.isSome)
      && decide ((e :: es).length + ([] : List Keyword).length + (if ([] : List Keyword).isEmpty then 0 else 1) < 30)) = true := by rfl)
    (hline : (apos.endLine == cpos.line) = true := by rfl) (hs : starEach (e :: es) X.env = (false, eval e X.env) :: starEach es X.env := by rfl) (hplain : (backTo cpos (starEach es X.env)).any (·.1) = false := by rfl) :
    PE X (.Call (.Attribute o name apos) (e :: es) [] cpos) (tBM K T r to t) := hK ▸ pe_bm pa slot hty hm ho ha hbase hfew hline hs hplain
theorem k_bm0 {T id : String} {name : Str} {r : V → List V → Hp → VK → Prop} {o : Expr} {to : TE} {apos cpos : Pos} (pa : PlainAttrs T) (slot : Slot T name id) (hty : typeOf (.builtin id) = pure (.type "method_descriptor")) (hm : MtR X id r) (ho : PE X o to)
    (hbase : attributeBase o name X.env (eval o X.env) = eval o X.env := by rfl) (hline : (apos.endLine == cpos.line) = true := by rfl) : PE X (.Call (.Attribute o name apos) [] [] cpos) (tBM0 K T r to) := hK ▸ pe_bm0 pa slot hty hm ho hbase hline
theorem k_gtup {es : List Expr} {k : Nat} {t : TGs} {n : Nat} {pos : Pos} (hc : X.calm = true) (h : PGs X es t)
    (hn : (assignEach es X.env).length = n := by rfl) (hst : (assignEach es X.env).findIdx? (·.1) = none := by rfl) : PG X (.Tuple es k pos) (gTup K n t) := hK ▸ pg_tup hc h hn hst
end
theorem u1 {k : Nat} {A : Around} (hr : Room k A) : A.units + 1 < cLine := by
  have z := hr.un
  omega
/-- a def by its body -/
theorem fun_den {P : Program} {w : World} {K : PySem.W.Frag} {mg : Str → Option Value} {base : Heap} {x qual : Str} {st : Stmt} {f : Addr} {fd : FuncData} {N ps : List Str} {k : Nat} {ds : DS} (F : Fun K x qual st f fd) (S : FnScope N ps (defScope st))
    (hb : ∀ (cdv : Value) (A : Around) (outer : List PySem.Env) (s : Shared) (H : Hp) (E : XK), Room k (A.deeper (envOfC qual (defScope st) s.heap.objs.size f cdv)) →
      ∃ t, PSs (cxOf (L2.CX P w) P w K mg base N qual (defScope st) f cdv A outer s H E) (defBody st) t ∧ SS (WO E) K t ds) :
    FnOk P w K mg base (L2.CX P w) (k + 1) f fd ps (conc K ps.length (runD ds N.length)) := by
  refine F.okX S (fun vs H Q E h => ?_) (fun cdv A outer s H vs Q E hr h => ?_)
  · obtain ⟨c, T, avs, _, _, r, hl, _⟩ := h
    rw [← r.len, hl]
  · obtain ⟨c, T, avs, hK, cor, r, hl, hp⟩ := h
    obtain ⟨t, ht, sn⟩ := hb cdv A outer s H E hr
    refine ⟨t, ht, sn (envOf N.length avs) T c _ H _ hK cor (env_start r) ?_⟩
    unfold runD at hp
    cases q : ds (envOf N.length avs) T with
    | bad =>
      rw [q] at hp
      exact False.elim hp
    | go fl T' =>
      rw [q] at hp
      cases fl with
      | nx ρ => exact fun c' H' σ n k e => (show Good c H Q .non T' from hp) c' H' .non n k .non
      | rt v => exact hp
      | bk ρ => exact False.elim hp
      | ct ρ => exact False.elim hp
      | xc ρ e => exact fun c' H' σ cls d n k _ re => (show Fall c H E e T' from hp) c' H' cls d n k re
/-! ### what a def, a method, a class brings -/
structure DfN (P : Program) (w : World) (K : PySem.W.Frag) (mg : Str → Option Value) (base : Heap) (k : Nat) (x : Str) (ps : List Str) (F : FD) where
  f : Addr
  fd : FuncData
  G : FnOk P w K mg base (L2.CX P w) k f fd ps (conc K ps.length F)
  m : mg x = some (.ref f)
  kp : PySem.W.keepIn K (.ref f) = true
  b : Binds K fd ps []
structure MdN (P : Program) (w : World) (K : PySem.W.Frag) (mg : Str → Option Value) (base : Heap) (k : Nat) (C x : Str) (ps : List Str) (F : FD) where
  f : Addr
  fd : FuncData
  c : Cls K (He.ga K C)
  M : Meth K (He.ga K C) x f
  G : FnOk P w K mg base (L2.CX P w) k f fd ps (conc K ps.length F)
  b : Binds K fd ps []
structure MkN (P : Program) (w : World) (K : PySem.W.Frag) (mg : Str → Option Value) (base : Heap) (k : Nat) (C : Str) (ps : List Str) (F : FD) where
  f : Addr
  fd : FuncData
  M : Mk K (He.ga K C) f
  G : FnOk P w K mg base (L2.CX P w) k f fd ps (conc K ps.length F)
  b : Binds K fd ps []
  gC : mg C = some (.ref (He.ga K C))
structure TxN (mg : Str → Option Value) : Prop where
  b_len : mg "len" = none
  b_abs : mg "abs" = none
  b_int : mg "int" = none
  b_max : mg "max" = none
  b_min : mg "min" = none
  b_sum : mg "sum" = none
  b_isinstance : mg "isinstance" = none
  b_tuple : mg "tuple" = none
  b_list : mg "list" = none
  b_dict : mg "dict" = none
  b_str : mg "str" = none
  b_bool : mg "bool" = none
  b_all : mg "all" = none
  b_any : mg "any" = none
  b_range : mg "range" = none
  b_zip : mg "zip" = none
  b_enumerate : mg "enumerate" = none
  b_sorted : mg "sorted" = none
end Dl
set_option Elab.async false
set_option linter.all false
set_option maxRecDepth 100000
set_option maxHeartbeats 4000000
namespace Cm
open PySem PySem.Spec PyProof.Rows L2
/-! ### comprehensions of three clauses -/
abbrev FF : Value → Shared → Prop := fun _ _ => False
/-- the loop of clause k: what is asked of one turn -/
def Turns (M : Model) (A : Around) (env : Env) (E : Expr) (k : Nat) (D : Value) (tg : Expr) (ifs : List Expr) (Bo : (Shared → Prop) → Shared → Prop) : Prop :=
  ∀ (it : Value) (R : Result → Shared → Prop) (J : Nat → Shared → Prop), (∀ n z, J n z → wpAny M A (pyNext it) (fun r z1 => match r with
    | none => R (.ok .next) z1
    | some v => wpAny M A (letOwnedTupleGo tg it v) (fun _ z2 => wpAny M A (assign tg env v) (fun _ z3 =>
        wpAny M A (forIn ifs true fun c r => if r = true then do let ok ← isTrue c env (eval c env); pure (ForInStep.yield ok) else pure (ForInStep.yield r)) (fun b z4 => if b = true then Bo (fun z5 => ∃ m, m < n ∧ J m z5) z4 else ∃ m, m < n ∧ J m z4) FF z3) FF z2) FF z1) FF z) →
    ∀ n z, J n z → codeAny M A (.compLoop E k it D env) R z
/-- what a turn does with a clause behind it -/
def BoC (M : Model) (A : Around) (env : Env) (E : Expr) (k : Nat) (D : Value) (src : Expr) : (Shared → Prop) → Shared → Prop := fun Q z =>
  wpAny M A (eval src env) (fun x z1 => wpAny M A (pyIter x) (fun it z2 => codeAny M A (.compStart E k it D env) (fun r z3 => match r with
    | .ok _ => Q z3
    | .error _ => False) z2) FF z1) FF z
/-- what a turn of the last clause does -/
def BoL (M : Model) (A : Around) (env : Env) (D : Value) (elt : Expr) : (Shared → Prop) → Shared → Prop := fun Q z =>
  wpAny M A (eval elt env) (fun x z1 => wpAny M A (call (.builtin "list.append") [D, x]) (fun _ z2 => Q z2) FF z1) FF z
theorem nox {α : Type} {M : Model} {A : Around} {t : Sem α} {Q Q' : α → Shared → Prop} {E : Value → Shared → Prop} {z : Shared} (h : wpAny M A t Q FF z) (q : ∀ a y, Q a y → Q' a y) : wpAny M A t Q' E z := wpAny_mono h q fun _ _ f => False.elim f
section
variable {prog : Program} {w : World} {A : Around} {env : Env} {elt t0 i0 t1 i1 t2 i2 : Expr} {f0 f1 f2 : List Expr} {scope : Scope} {pos : Pos} {D : Value}
abbrev c3 (elt t0 i0 t1 i1 t2 i2 : Expr) (f0 f1 f2 : List Expr) (scope : Scope) (pos : Pos) : Expr := .ListComp elt [⟨t0, i0, f0, 0⟩, ⟨t1, i1, f1, 0⟩, ⟨t2, i2, f2, 0⟩] scope pos
/-- a turn with a clause behind it, as a tree -/
def midT (E : Expr) (k : Nat) (tg src nxt : Expr) (ifs : List Expr) (it D : Value) (env : Env) : Sem Fin := do
  standAt src.pos
  match ← pyNext it with
  | none => pure (.done .next)
  | some v =>
    letOwnedTupleGo tg it v
    assign tg env v
    let mut go := true
    for c in ifs do
      if go then go ← isTrue c env (eval c env)
    if go then
      let y ← eval nxt env
      standAt nxt.pos
      let y ← foldedSetIterable nxt env y
      let _ ← runOwn (.compStart E (k + 1) (← holding [y] (pyIter y)) D env) env
    again (.compLoop E k it D env)
/-- the last clause's -/
def lastT (E : Expr) (k : Nat) (tg src elt : Expr) (ifs : List Expr) (it D : Value) (env : Env) : Sem Fin := do
  standAt src.pos
  match ← pyNext it with
  | none => pure (.done .next)
  | some v =>
    letOwnedTupleGo tg it v
    assign tg env v
    let mut go := true
    for c in ifs do
      if go then go ← isTrue c env (eval c env)
    if go then
      (do let _ ← call (.builtin "list.append") [D, ← eval elt env])
    again (.compLoop E k it D env)
theorem turns_mid {E : Expr} {k : Nat} {tg src nxt : Expr} {ifs : List Expr} (he : ∀ it, compTurn E k it D env = midT E k tg src nxt ifs it D env) (hd : ∀ it, (model prog w).den (.compLoop E k it D env) = (compTurn E k it D env).onRaise (fun x => do noteFrame x env; theTreesLotGoes x)) (hs : ∀ x, foldedSetIterable nxt env x = pure x) (hq : ∀ it, (Code.compLoop E k it D env).quiet = true) (hu : ∀ it, A.under (.compLoop E k it D env) = A) :
    Turns (model prog w) A env E k D tg ifs (BoC (model prog w) A env E (k + 1) D nxt) := fun it R J turn n z h => by
  refine codeAny_loop (hq it) J (fun n z hJ => ?_) n h
  rw [hu it, hd it]
  refine wpAny_noted ?_
  rw [he it]
  refine wpAny_bind (wpAny_standAt (wpAny_bind (nox (turn n z hJ) fun r z1 g1 => ?_)))
  cases r with
  | none => exact wpAny_pure g1
  | some v =>
    refine wpAny_bind (nox g1 fun _ z2 g2 => wpAny_bind (nox g2 fun _ z3 g3 => wpAny_bind (nox g3 fun b z4 g4 => ?_)))
    cases b with
    | false => exact wpAny_pure ⟨rfl, g4⟩
    | true =>
      refine wpAny_bind (nox g4 fun x z5 g5 => wpAny_bind (wpAny_standAt (wpAny_bind (wpAny_of_eq (hs x) (wpAny_bind (wpAny_holding (nox g5 fun i z6 g6 => ?_)))))))
      refine wpAny_bind (wpAny_runOwn ?_)
      rw [Around.mark_none]
      refine codeAny_mono g6 fun r z7 hr => ?_
      cases r with
      | ok f =>
        first
          | exact wpAny_pure ⟨rfl, hr⟩
          | exact wpAny_bind (wpAny_pure (wpAny_pure ⟨rfl, hr⟩))
      | error e => exact hr.elim
theorem turns_last {E : Expr} {k : Nat} {tg src elt : Expr} {ifs : List Expr} (he : ∀ it, compTurn E k it D env = lastT E k tg src elt ifs it D env) (hd : ∀ it, (model prog w).den (.compLoop E k it D env) = (compTurn E k it D env).onRaise (fun x => do noteFrame x env; theTreesLotGoes x)) (hq : ∀ it, (Code.compLoop E k it D env).quiet = true) (hu : ∀ it, A.under (.compLoop E k it D env) = A) :
    Turns (model prog w) A env E k D tg ifs (BoL (model prog w) A env D elt) := fun it R J turn n z h => by
  refine codeAny_loop (hq it) J (fun n z hJ => ?_) n h
  rw [hu it, hd it]
  refine wpAny_noted ?_
  rw [he it]
  refine wpAny_bind (wpAny_standAt (wpAny_bind (nox (turn n z hJ) fun r z1 g1 => ?_)))
  cases r with
  | none => exact wpAny_pure g1
  | some v =>
    refine wpAny_bind (nox g1 fun _ z2 g2 => wpAny_bind (nox g2 fun _ z3 g3 => wpAny_bind (nox g3 fun b z4 g4 => ?_)))
    cases b with
    | false => exact wpAny_pure ⟨rfl, g4⟩
    | true => exact wpAny_bind (wpAny_bind (nox g4 fun x z5 g5 => wpAny_bind (nox g5 fun _ z6 g6 => wpAny_pure (wpAny_pure ⟨rfl, g6⟩))))
theorem turns0 (hs : ∀ x, foldedSetIterable i1 env x = pure x) : Turns (model prog w) A env (c3 elt t0 i0 t1 i1 t2 i2 f0 f1 f2 scope pos) 0 D t0 f0 (BoC (model prog w) A env (c3 elt t0 i0 t1 i1 t2 i2 f0 f1 f2 scope pos) 1 D i1) := turns_mid (src := i0) (fun _ => rfl) (fun _ => rfl) hs (fun _ => rfl) (fun _ => rfl)
theorem turns1 (hs : ∀ x, foldedSetIterable i2 env x = pure x) : Turns (model prog w) A env (c3 elt t0 i0 t1 i1 t2 i2 f0 f1 f2 scope pos) 1 D t1 f1 (BoC (model prog w) A env (c3 elt t0 i0 t1 i1 t2 i2 f0 f1 f2 scope pos) 2 D i2) := turns_mid (src := i1) (fun _ => rfl) (fun _ => rfl) hs (fun _ => rfl) (fun _ => rfl)
theorem turns2 : Turns (model prog w) A env (c3 elt t0 i0 t1 i1 t2 i2 f0 f1 f2 scope pos) 2 D t2 f2 (BoL (model prog w) A env D elt) := turns_last (src := i2) (fun _ => rfl) (fun _ => rfl) (fun _ => rfl) (fun _ => rfl)
/-- a clause's start, behind the first -/
def Starts (M : Model) (A : Around) (env : Env) (E : Expr) (k : Nat) (D : Value) : Prop := ∀ (it : Value) (R : Result → Shared → Prop) (z : Shared), codeAny M A (.compLoop E k it D env) R z →
  wpAny M A (pyIter it) (fun it' z' => codeAny M A (.compLoop E k it' D env) R z') (notedBy M A env fun x s' => R (.error x) s') z → codeAny M A (.compStart E k it D env) R z
theorem starts1 : Starts (model prog w) A env (c3 elt t0 i0 t1 i1 t2 i2 f0 f1 f2 scope pos) 1 D := fun it R z h0 h => by
  refine codeAny_of_tree ?_
  show wpAny _ _ ((compStart (c3 elt t0 i0 t1 i1 t2 i2 f0 f1 f2 scope pos) 1 it D env).onRaise (fun x => do noteFrame x env; standAt theWindowsPlace)) _ _ z
  refine wpAny_notedAt ?_
  unfold compStart
  show wpAny _ _ (ask >>= _) _ _ z
  refine wpAny_bind (wpAny_askSetting (wpAny_ite ?_))
  split
  · first
      | exact wpAny_bind (wpAny_pure (wpAny_pure (And.intro rfl h0)))
      | exact wpAny_pure (And.intro rfl h0)
  · refine wpAny_bind (wpAny_rule ?_)
    first
      | exact wpAny_bind (wpAny_standAt (wpAny_bind (thn h fun it' z' h' => wpAny_pure (And.intro rfl h'))))
      | (show wpAny _ _ (standAt i1.pos >>= _) _ _ z; exact wpAny_bind (wpAny_standAt (wpAny_bind (thn h fun it' z' h' => wpAny_pure (And.intro rfl h')))))
theorem starts2 : Starts (model prog w) A env (c3 elt t0 i0 t1 i1 t2 i2 f0 f1 f2 scope pos) 2 D := fun it R z h0 h => by
  refine codeAny_of_tree ?_
  show wpAny _ _ ((compStart (c3 elt t0 i0 t1 i1 t2 i2 f0 f1 f2 scope pos) 2 it D env).onRaise (fun x => do noteFrame x env; standAt theWindowsPlace)) _ _ z
  refine wpAny_notedAt ?_
  unfold compStart
  show wpAny _ _ (ask >>= _) _ _ z
  refine wpAny_bind (wpAny_askSetting (wpAny_ite ?_))
  split
  · first
      | exact wpAny_bind (wpAny_pure (wpAny_pure (And.intro rfl h0)))
      | exact wpAny_pure (And.intro rfl h0)
  · refine wpAny_bind (wpAny_rule ?_)
    first
      | exact wpAny_bind (wpAny_standAt (wpAny_bind (thn h fun it' z' h' => wpAny_pure (And.intro rfl h'))))
      | (show wpAny _ _ (standAt i2.pos >>= _) _ _ z; exact wpAny_bind (wpAny_standAt (wpAny_bind (thn h fun it' z' h' => wpAny_pure (And.intro rfl h')))))
end
section
variable {X : Cx} {s0 : Shared} {H0 : Hp} {scope : Scope} {ce : Env} {fp : List Addr}
/-- the part of a reading from a clause on: Nx is what stands behind it -/
abbrev CW : Type := (Hp → Prop) → L2.St → Hp → Prop
def tK (wi : TI) (g : TG) (tt : TT) (bd : CW) (vs : List Nat) : CW := fun Nx σ H => wi σ H fun J H1 => ∃ U : Nat → Nat → Hp → Prop, (∃ m, U 0 m H1) ∧ ∀ j k H, U j k H →
  (J.stop j H ∧ Nx H) ∨ (J.go j H ∧ ∃ N1 : Hp → Prop, (∀ H', N1 H' → ∃ k', k' < k ∧ U (j + 1) k' H') ∧ ∀ x H', J.yld j H x H' → g x (wipe σ vs) H' fun σ2 H2 => wipe σ2 vs = wipe σ vs ∧ tt σ2 H2 fun b H3 => if b = true then bd N1 σ2 H3 else N1 H3)
def tKe (te : TE) (D : Addr) : CW := fun Nx σ H => te σ H fun y H1 => ∃ acc, H1 D = some (.lst acc) ∧ acc.length < sizeLine ∧ Nx (upd H1 D (.lst (acc ++ [y])))
/-- a turn's body keeps what the block knows but for vs -/
structure PB (Y : Cx) (Bo : (Shared → Prop) → Shared → Prop) (vs : List Nat) (bd : CW) : Prop where
  mono : ∀ {Q Q' : Shared → Prop} {z : Shared}, Bo Q z → (∀ y, Q y → Q' y) → Bo Q' z
  run : ∀ pins z σ H N, Inv Y pins σ H z → bd N σ H → Bo (fun y => ∃ H', Inv Y pins (wipe σ vs) H' y ∧ N H') z
theorem pb_last {elt : Expr} {te : TE} {D : Addr} (he : PE (X.blk s0 H0 scope ce fp) elt te) : PB (X.blk s0 H0 scope ce fp) (BoL (model X.prog X.w) X.A ce (.ref D) elt) [] (tKe te D) where
  mono := fun h q => nox h fun _ _ h1 => nox h1 fun _ y h2 => q y h2
  run := fun pins z σ H N I h => nox (he.run pins z σ H _ I h) fun v y ⟨yv, H1, I1, r1, acc, hD, hz, nx⟩ => app_ok (X := X.blk s0 H0 scope ce fp) I1 hD hz r1 fun y2 I2 => ⟨_, I2, nx⟩
theorem wipe_sub {σ : L2.St} {vs ws : List Nat} (h : ∀ i ∈ ws, i ∈ vs) (j : Nat) (v : V) (e : (wipe σ vs)[j]? = some (some v)) : (wipe σ ws)[j]? = some (some v) := by
  obtain ⟨e1, e2⟩ := wipe_some e
  rw [wipe_out fun z => e2 (h j z)]
  exact e1
theorem loop_tK (hc : X.calm = true) {E : Expr} {k : Nat} {D : Value} {tg src : Expr} {ifs : List Expr} {Bo : (Shared → Prop) → Shared → Prop} {vs ws : List Nat} {bd : CW} {wi : TI} {g : TG} {tt : TT} (tn : Turns (model X.prog X.w) X.A ce E k D tg ifs Bo) (st : Starts (model X.prog X.w) X.A ce E k D) (hw : ∀ i ∈ ws, i ∈ vs)
    (hi : PI (X.blk s0 H0 scope ce fp) tg src wi) (hg : PG (X.blk s0 H0 scope ce fp) tg g) (ht : PTs (X.blk s0 H0 scope ce fp) ifs tt) (pb : PB (X.blk s0 H0 scope ce fp) Bo ws bd) : PB (X.blk s0 H0 scope ce fp) (BoC (model X.prog X.w) X.A ce E k D src) vs (tK wi g tt bd vs) where
  mono := fun h q => nox h fun _ _ h1 => nox h1 fun _ _ h2 => codeAny_mono h2 fun r y hr => match r, hr with
    | .ok _, hr => q y hr
  run := fun pins z σ H N I h => by
    refine nox (hi.run pins z σ H _ I h) fun v z1 hx => nox hx fun itv z2 h2 => ?_
    obtain ⟨it, fq, tq, J, H2, e, I2, T, st2, f2, U, ⟨m1, w1⟩, turn⟩ := h2
    subst e
    have stat : ∀ {H' : Hp}, (∀ b ∈ fq, H' b = none) → ∀ b ∈ fq, FpOk (X.blk s0 H0 scope ce fp) pins H' b := fun hn b hb => ⟨hn b hb, (f2 b hb).2⟩
    have loop : codeAny (model X.prog X.w) X.A (.compLoop E k (.ref it) D ce) (fun r y => match r with
        | .ok _ => ∃ H', Inv (X.blk s0 H0 scope ce fp) pins (wipe σ vs) H' y ∧ N H'
        | .error _ => False) z2 := by
      refine tn (.ref it) _ (fun n y => ∃ j H', Inv (X.blk s0 H0 scope ce fp) pins (wipe σ vs) H' y ∧ tq j y.heap ∧ (∀ b ∈ fq, H' b = none) ∧ U j n H') ?_ m1 _ ⟨0, H2, I2.weak (wipe_length _ _) (fun j v e => (wipe_some e).1), st2, fun b hb => (f2 b hb).1, w1⟩
      rintro n z3 ⟨j, H3, I3, st3, n3, w3⟩
      rcases turn j n H3 w3 with ⟨stop, nx⟩ | ⟨go, N1, hN1, step⟩
      · refine nox (T.done (X.blk s0 H0 scope ce fp) rfl rfl rfl hc j _ z3 (wipe σ vs) H3 FF I3 (stat n3) st3 stop) fun r z4 ⟨hr, I4⟩ => ?_
        subst hr
        exact ⟨_, I4, nx⟩
      · refine nox (T.item (X.blk s0 H0 scope ce fp) rfl rfl rfl hc j _ z3 (wipe σ vs) H3 FF I3 (stat n3) st3 go) fun r z4 ⟨u, hr, h4⟩ => ?_
        subst hr
        refine nox h4 fun _ z5 ⟨x, H5, I5, r5, y5, st5, n5⟩ => ?_
        have I5' := I5.pinned (stat n5) (T.obj _ _ st5)
        refine nox (hg.run _ z5 (wipe σ vs) H5 x u _ I5' r5 (step x H5 y5)) fun _ z6 ⟨σ6, H6, I6, hw6, q6⟩ => ?_
        refine nox (ht.run _ z6 σ6 H6 _ I6 q6) fun b z7 ⟨H7, I7, q7⟩ => ?_
        have fin : ∀ {τ : L2.St} {y : Shared} {H' : Hp}, Inv (X.blk s0 H0 scope ce fp) (pins ++ pinsAt fq z5.heap) τ H' y → (wipe σ vs).length = τ.length → (∀ (j : Nat) v, (wipe σ vs)[j]? = some (some v) → τ[j]? = some (some v)) → N1 H' →
            ∃ m, m < n ∧ ∃ j H', Inv (X.blk s0 H0 scope ce fp) pins (wipe σ vs) H' y ∧ tq j y.heap ∧ (∀ b ∈ fq, H' b = none) ∧ U j m H' := fun {τ y H'} I' hl hk nx => by
          obtain ⟨m', hm, w'⟩ := hN1 H' nx
          have pin' : ∀ b ∈ fq, ∀ o, z5.heap.get? b = some o → y.heap.get? b = some o ∧ H' b = none := fun b hb o e =>
            have z := I'.pin (b, o) (List.mem_append_right _ (List.mem_append_right _ (mem_pinsAt hb e)))
            ⟨z.1, z.2.1⟩
          refine ⟨m', hm, j + 1, H', I'.unpinned.weak hl hk, T.keep _ _ _ st5 fun b hb o e => (pin' b hb o e).1, fun b hb => ?_, w'⟩
          obtain ⟨o, e, _⟩ := T.obj _ _ st5 b hb
          exact (pin' b hb o e).2
        have l6 : (wipe σ vs).length = σ6.length := by rw [← hw6, wipe_length]
        cases b with
        | false => exact fin I7 l6 (fun j v e => by rw [← hw6] at e; exact (wipe_some e).1) q7
        | true =>
          refine pb.mono (pb.run _ z7 σ6 H7 _ I7 q7) fun y ⟨H', I', nx⟩ => fin I' (l6.trans (wipe_length σ6 ws).symm) (fun j v e => ?_) nx
          rw [← hw6] at e
          exact wipe_sub hw j v e
    exact st (.ref it) _ z2 loop (T.self X.A 0 _ _ _ st2 loop)
end
section
variable {X : Cx}
/-- [elt for t0 in i0 if .. for t1 in i1 if .. for t2 in i2 if ..] -/
def tLc3 (wi : TI) (g : TG) (tt : TT) (vs : List Nat) (bd : Addr → CW) : TE := fun σ H Q => wi σ H fun J H1 => ∀ D, H1 D = none → ∃ U : Nat → Nat → Hp → Prop, (∃ m, U 0 m (upd H1 D (.lst []))) ∧ ∀ i m H, U i m H →
  (J.stop i H ∧ Q (.ref D) H) ∨ (J.go i H ∧ ∃ N : Hp → Prop, (∀ H', N H' → ∃ m', m' < m ∧ U (i + 1) m' H') ∧ ∀ x H', J.yld i H x H' → g x (wipe σ vs) H' fun σ2 H2 => wipe σ2 vs = wipe σ vs ∧ tt σ2 H2 fun b H3 => if b = true then bd D N σ2 H3 else N H3)
theorem pe_lc3 {elt t0 i0 t1 i1 t2 i2 : Expr} {f0 f1 f2 : List Expr} {scope : Scope} {pos : Pos} {own : List (Str × Nat)} {vs1 vs2 : List Nat} {wi wi1 wi2 : TI} {g g1 g2 : TG} {tt tt1 tt2 : TT} {te : TE} (hc : X.calm = true) (hN : X.N.Nodup) (hi : PI X t0 i0 wi) (ok : BlkOk X.N X.env.scope scope own)
    (h1 : ∀ i ∈ vs1, i ∈ own.map (·.2)) (h2 : ∀ i ∈ vs2, i ∈ vs1)
    (K : ∀ (z : Shared) (H : Hp) (C : Addr) (cl : List (Str × Addr)) (fp : List Addr), (PG (X.blk z H scope (compEnvC scope cl C X.env) fp) t0 g ∧ PTs (X.blk z H scope (compEnvC scope cl C X.env) fp) f0 tt) ∧ (PI (X.blk z H scope (compEnvC scope cl C X.env) fp) t1 i1 wi1 ∧ PG (X.blk z H scope (compEnvC scope cl C X.env) fp) t1 g1 ∧ PTs (X.blk z H scope (compEnvC scope cl C X.env) fp) f1 tt1) ∧
      (PI (X.blk z H scope (compEnvC scope cl C X.env) fp) t2 i2 wi2 ∧ PG (X.blk z H scope (compEnvC scope cl C X.env) fp) t2 g2 ∧ PTs (X.blk z H scope (compEnvC scope cl C X.env) fp) f2 tt2) ∧ PE (X.blk z H scope (compEnvC scope cl C X.env) fp) elt te)
    (s0 : ∀ x, foldedSetIterable i0 X.env x = pure x := by intro _; rfl) (s1 : ∀ e x, foldedSetIterable i1 e x = pure x := by intro _ _; rfl) (s2 : ∀ e x, foldedSetIterable i2 e x = pure x := by intro _ _; rfl) :
    PE X (c3 elt t0 i0 t1 i1 t2 i2 f0 f1 f2 scope pos) (tLc3 wi g tt (own.map (·.2)) fun D => tK wi1 g1 tt1 (tK wi2 g2 tt2 (tKe te D) vs2) vs1) := by
  refine ⟨fun pins z σ H Q I h => ?_⟩
  rw [eval_ListComp]
  have hfree : ∀ y ∈ scope.names, y.2 = .free → ∃ c, X.env.cells.lookup y.1 = some c := fun y hy e => (ok.free y hy e).elim (fun k => I.ok.has _ (.inl k)) fun k => I.ok.has _ (.inr k)
  refine wpAny_comprehension_free (use := none) rfl s0 (closure_ok hfree) ok.kind (fun y hy e => by rw [ok.uniq y hy, e]) (thn (hi.run pins z σ H _ I h) fun xv z1 hx => thn hx fun itv z2 k2 => ?_)
  obtain ⟨it, fp, tn, J, H2, e, I2, T, st2, f2', q⟩ := k2
  subst e
  refine wpAny_newObj_type (newEnv_comp ?_) (by show 0 ≤ sizeLine; decide)
  obtain ⟨U, ⟨m0, w0⟩, turn⟩ := q z2.heap.objs.size (I2.hok.fresh (Nat.le_refl _))
  generalize eD : z2.heap.objs.size = D at w0 turn
  generalize e3 : ({ z2 with heap := z2.heap.push { cls := .type "list", data := .seq ([] : List Value).toArray } } : Shared) = z3
  have I3 : Inv X pins σ (upd H2 D (.lst [])) z3 := by
    rw [← e3]
    refine I2.laid (t' := z2.toks) (fun b o e => Heap.get?_push_of_some _ e) (Nat.le_of_eq eD) ⟨Nat.zero_le _, [], 0, .nil, ?_⟩
    rw [← eD]
    exact Heap.get?_push_size _ rfl
  have k3 : z3.heap = z2.heap.push { cls := .type "list", data := .seq ([] : List Value).toArray } := by rw [← e3]
  have f3 : ∀ b ∈ fp, FpOk X pins (upd H2 D (.lst [])) b ∧ b < z3.heap.objs.size := fun b hb => by
    obtain ⟨o, e, _⟩ := T.obj _ _ st2 b hb
    have lt := Heap.lt_size e
    refine ⟨⟨?_, (f2' b hb).2⟩, by rw [k3, Heap.size_push]; exact Nat.lt_succ_of_lt lt⟩
    rw [upd_ne (by rw [← eD]; exact Nat.ne_of_lt lt)]
    exact (f2' b hb).1
  have st3 : tn 0 z3.heap := T.keep _ _ _ st2 fun b _ o e => by rw [k3]; exact Heap.get?_push_of_some _ e
  have I4 := block_start I3 ok hN f3
  have KK := K z3 (upd H2 D (.lst [])) z3.heap.objs.size (cellsFrom (z3.heap.objs.size + 1) scope.names (cloFrom X.env.cells scope.names [])) fp
  show codeAny _ _ (.compStart (c3 elt t0 i0 t1 i1 t2 i2 f0 f1 f2 scope pos) 0 (.ref it) (.ref D) (compEnvC scope (cellsFrom (z3.heap.objs.size + 1) scope.names (cloFrom X.env.cells scope.names [])) z3.heap.objs.size X.env)) (compPost (model X.prog X.w) X.A X.xe none _ (.ref D) z3.heap.objs.size) { z3 with heap := pushCells (z3.heap.push { cls := .type "dict", data := .dict #[] }) scope.names }
  have nfp : ∀ b ∈ fp, (upd H2 D (.lst [])) b = none := fun b hb => (f3 b hb).1.1
  generalize ee : compEnvC scope (cellsFrom (z3.heap.objs.size + 1) scope.names (cloFrom X.env.cells scope.names [])) z3.heap.objs.size X.env = ce at I4 KK ⊢
  have cL : ce.locals = z3.heap.objs.size := by rw [← ee]; rfl
  obtain ⟨⟨pg, pt⟩, ⟨pi1, pg1, pt1⟩, ⟨pi2, pg2, pt2⟩, pe⟩ := KK
  generalize eH : upd H2 D (.lst []) = H3 at I3 I4 pg pt pi1 pg1 pt1 pi2 pg2 pt2 pe w0 nfp f3
  generalize e4 : ({ z3 with heap := pushCells (z3.heap.push { cls := .type "dict", data := .dict #[] }) scope.names } : Shared) = z4 at I4 ⊢
  have st4 : tn 0 z4.heap := T.keep _ _ _ st3 fun b _ o e => by rw [← e4]; exact pushCells_keeps _ _ _ _ (Heap.get?_push_of_some _ e)
  have stat : ∀ {τ : L2.St} {H' : Hp} {y : Shared}, Inv (X.blk z3 H3 scope ce fp) [] τ H' y → (∀ b ∈ fp, H' b = none) → ∀ b ∈ fp, FpOk (X.blk z3 H3 scope ce fp) [] H' b := fun I' hn b hb =>
    ⟨hn b hb, (I'.ok.exf b hb).1, I'.ok.exfs b hb, .inl hb, fun x c e => (I'.ok.exf b hb).2 x c e, fun p hp => absurd (show p ∈ ([] : List (Addr × Obj)) ++ [] from hp) (by simp)⟩
  have pb2 := loop_tK hc (D := .ref D) (turns2 (elt := elt) (i0 := i0) (t0 := t0) (f0 := f0) (i1 := i1) (t1 := t1) (f1 := f1) (t2 := t2) (i2 := i2) (f2 := f2) (scope := scope) (pos := pos)) starts2 (vs := vs2) (fun _ z => absurd z List.not_mem_nil) pi2 pg2 pt2 (pb_last (D := D) pe)
  have pb1 := loop_tK hc (D := .ref D) (turns1 (elt := elt) (i0 := i0) (t0 := t0) (f0 := f0) (i1 := i1) (t1 := t1) (f1 := f1) (t2 := t2) (i2 := i2) (f2 := f2) (scope := scope) (pos := pos) (s2 ce)) starts1 (vs := vs1) h2 pi1 pg1 pt1 pb2
  have loop : codeAny (model X.prog X.w) X.A (.compLoop (c3 elt t0 i0 t1 i1 t2 i2 f0 f1 f2 scope pos) 0 (.ref it) (.ref D) ce) (compPost (model X.prog X.w) X.A X.xe none (fun v y => ∃ v1 H', Inv X pins σ H' y ∧ RelV v1 v ∧ Q v1 H') (.ref D) z3.heap.objs.size) z4 := by
    refine turns0 (s1 ce) (.ref it) _ (fun n y => ∃ i H', Inv (X.blk z3 H3 scope ce fp) [] (wipe σ (own.map (·.2))) H' y ∧ tn i y.heap ∧ (∀ b ∈ fp, H' b = none) ∧ U i n H') ?_ m0 _ ⟨0, H3, I4, st4, nfp, w0⟩
    rintro n z5 ⟨i, H5, I5, st5, n5, w5⟩
    rcases turn i n H5 w5 with ⟨stop, qq⟩ | ⟨go, N, hN, step⟩
    · refine nox (T.done (X.blk z3 H3 scope ce fp) rfl rfl rfl hc i [] z5 _ H5 FF I5 (stat I5 n5) st5 stop) fun r z6 ⟨hr, I6⟩ => ?_
      subst hr
      have I7 : Inv X pins σ H5 z6 := I3.call' (ch := fp) I6.os I6.base I6.hok I6.bare fun b hb => ⟨(f3 b hb).1.2.2.2.1, (f3 b hb).1.2.1, (f3 b hb).1.2.2.2.2.1, (f3 b hb).1.2.2.2.2.2⟩
      have nC : H5 z3.heap.objs.size = none := by
        have z : H5 ce.locals = none := I6.free
        rw [cL] at z
        exact z
      obtain ⟨m, hn, _⟩ := I6.loc
      have hn : z6.heap.Ns ce.locals m := hn
      rw [cL] at hn
      refine ⟨m, hn, fun h' sb => ?_⟩
      obtain ⟨p0, p1, p2, p3, p4, p5⟩ := I3.fpOk (Nat.le_refl _) nC
      exact ⟨.ref D, H5, I7.turned (t' := z6.toks) (fun b o hb e => (sb.2 b hb).trans e) p0 p1 p3 p4 p5, rfl, qq⟩
    · refine nox (T.item (X.blk z3 H3 scope ce fp) rfl rfl rfl hc i [] z5 _ H5 FF I5 (stat I5 n5) st5 go) fun r z6 ⟨u, hr, h6⟩ => ?_
      subst hr
      refine nox h6 fun _ z7 ⟨x, H7, I7, r7, y7, st7, n7⟩ => ?_
      have I7' := I7.pinned (stat I7 n7) (T.obj _ _ st7)
      refine nox (pg.run _ z7 _ H7 x u _ I7' r7 (step x H7 y7)) fun _ z8 ⟨σ8, H8, I8, hw8, q8⟩ => ?_
      refine nox (pt.run _ z8 σ8 H8 _ I8 q8) fun b z9 ⟨H9, I9, q9⟩ => ?_
      have fin : ∀ {τ : L2.St} {y : Shared} {H' : Hp}, Inv (X.blk z3 H3 scope ce fp) ([] ++ pinsAt fp z7.heap) τ H' y → (wipe σ (own.map (·.2))).length = τ.length → (∀ (j : Nat) v, (wipe σ (own.map (·.2)))[j]? = some (some v) → τ[j]? = some (some v)) → N H' →
          ∃ m, m < n ∧ ∃ i H', Inv (X.blk z3 H3 scope ce fp) [] (wipe σ (own.map (·.2))) H' y ∧ tn i y.heap ∧ (∀ b ∈ fp, H' b = none) ∧ U i m H' := fun {τ y H'} I' hl hk nx => by
        obtain ⟨m', hm, w'⟩ := hN H' nx
        have pin' : ∀ b ∈ fp, ∀ o, z7.heap.get? b = some o → y.heap.get? b = some o ∧ H' b = none := fun b hb o e =>
          have z := I'.pin (b, o) (List.mem_append_right _ (List.mem_append_right _ (mem_pinsAt hb e)))
          ⟨z.1, z.2.1⟩
        refine ⟨m', hm, i + 1, H', (I'.unpinned (pins := [])).weak hl hk, T.keep _ _ _ st7 fun b hb o e => (pin' b hb o e).1, fun b hb => ?_, w'⟩
        obtain ⟨o, e, _⟩ := T.obj _ _ st7 b hb
        exact (pin' b hb o e).2
      have l8 : (wipe σ (own.map (·.2))).length = σ8.length := by rw [← hw8, wipe_length]
      cases b with
      | false => exact fin I9 l8 (fun j v e => by rw [← hw8] at e; exact (wipe_some e).1) q9
      | true =>
        refine pb1.mono (pb1.run _ z9 σ8 H9 _ I9 q9) fun y ⟨H', I', nx⟩ => fin I' (l8.trans (wipe_length σ8 vs1).symm) (fun j v e => ?_) nx
        rw [← hw8] at e
        exact wipe_sub h1 j v e
  exact codeAny_compStart_list loop (T.self X.A 0 _ _ _ st4 loop)
end
/-- turns of a walk, whatever a turn is -/
theorem u_it {J : It} {n : Nat} {G : Hp → Prop} {Y : Nat → Hp → V → Hp → Prop} (w : Walk J n G Y) {S : (Hp → Prop) → V → Hp → Prop} {H1 : Hp} {Qd : Hp → Prop} (Pv : Nat → Hp → Prop) (h0 : Pv 0 H1) (hG : ∀ i H, Pv i H → G H) (step : ∀ i x H H', i < n → Pv i H → Y i H x H' → S (Pv (i + 1)) x H')
    (hd : ∀ H, Pv n H → Qd H) :
    ∃ U : Nat → Nat → Hp → Prop, (∃ m, U 0 m H1) ∧ ∀ i m H, U i m H → (J.stop i H ∧ Qd H) ∨ (J.go i H ∧ ∃ N : Hp → Prop, (∀ H', N H' → ∃ m', m' < m ∧ U (i + 1) m' H') ∧ ∀ x H', J.yld i H x H' → S N x H') := by
  refine ⟨fun i m H => i + m = n ∧ Pv i H, ⟨n, Nat.zero_add n, h0⟩, fun i m H ⟨hm, p⟩ => ?_⟩
  by_cases hi : i < n
  · exact .inr ⟨w.goes i H hi (hG i H p), Pv (i + 1), fun H' q => ⟨m - 1, by omega, by omega, q⟩, fun x H' y => step i x H H' hi p (w.yields i H x H' hi (hG i H p) y)⟩
  · obtain rfl : i = n := by omega
    exact .inl ⟨w.stops H (hG i H p), hd H p⟩
end Cm
set_option Elab.async false
set_option linter.all false
set_option maxRecDepth 100000
set_option maxHeartbeats 4000000
namespace Dl
open PySem PySem.Spec PyProof.Rows L2 Evl Cm
section
variable {W : WX} {K : PySem.W.Frag} {c c' : Co} {S S2 : Store} {H H' H1 : Hp} {x y z : AV} {u v : V} {xs ys : List AV} {us : List V}
/-! ### [e for x in xs for y in ys] -/
def lc2L (gd : Store → Bool) (dg : DG) (dt : DT) (di1 : DI) (dg1 : DG) (dt1 : DT) (de : DE) (vs1 : List Nat) (ρ : Env) : Nat → List AV → Store → Res (List AV)
  | _, [], S => if gd S then .ok [] S else .bad
  | n, x :: r, S => if gd S then (match dg x ρ with
    | some ρ1 => (dt ρ1 S).nox.bind fun b S1 => if b = true then (di1 ρ1 S1).nox.bind fun its S2 => if n + its.xs.length ≤ lim then (lcL its.gd dg1 dt1 de (wipeE ρ1 vs1) its.xs S2).bind fun ys S3 => (lc2L gd dg dt di1 dg1 dt1 de vs1 ρ (n + its.xs.length) r S3).bind fun zs S4 => .ok (ys ++ zs) S4 else .bad
      else lc2L gd dg dt di1 dg1 dt1 de vs1 ρ n r S1
    | none => .bad) else .bad
def dlLc2 (di : DI) (dg : DG) (dt : DT) (di1 : DI) (dg1 : DG) (dt1 : DT) (de : DE) (vs vs1 : List Nat) : DL := fun ρ S => (di ρ S).bind fun its S1 => lc2L its.gd dg dt di1 dg1 dt1 de vs1 (wipeE ρ vs) 0 its.xs S1
theorem lc2L_gd {gd : Store → Bool} {dg : DG} {dt : DT} {di1 : DI} {dg1 : DG} {dt1 : DT} {de : DE} {vs1 : List Nat} {ρ : Env} {n : Nat} {xs : List AV} {S : Store} {g : List AV → Store → Prop} {x : AV → Store → Prop} (h : (lc2L gd dg dt di1 dg1 dt1 de vs1 ρ n xs S).post g x) : gd S = true := by
  cases xs with
  | nil =>
    unfold lc2L at h
    split at h
    · assumption
    · exact False.elim h
  | cons y r =>
    unfold lc2L at h
    split at h
    · assumption
    · exact False.elim h
/-- D is hidden, the list at it stands as told -/
structure Hid (c1 : Co) (H1 : Hp) (D : Addr) (ρ : Env) (σ : L2.St) (n : Nat) (c' : Co) (S' : Store) (accA : List AV) (H' : Hp) : Prop where
  nx : Nxt c1 H1 c' H'
  hh : c'.hid D
  htr : D ∉ c'.tr
  k : Cor c' S' H'
  e : EnvR c' H' ρ σ
  lst : ∃ acc, H' D = some (.lst acc) ∧ Rels c' H' accA acc ∧ acc.length ≤ n
theorem Hid.go {c1 : Co} {D : Addr} {ρ : Env} {σ : L2.St} {n : Nat} {S' : Store} {accA : List AV} {S3 : Store} {c3 : Co} {H3 : Hp} (h : Hid c1 H1 D ρ σ n c' S' accA H') (m : Nxt c' H' c3 H3) (k3 : Cor c3 S3 H3) : Hid c1 H1 D ρ σ n c3 S3 accA H3 := by
  obtain ⟨acc, hd, ra, hl⟩ := h.lst
  refine ⟨h.nx.trans m, m.hid.1 D h.hh, fun w => ?_, k3, h.e.nxt m, acc, m.hkeep _ _ h.hh hd, ra.nxt m, hl⟩
  obtain ⟨l, el, hl3⟩ := m.tr
  rw [el] at w
  rcases List.mem_append.mp w with w | w
  · exact h.htr w
  · have := hl3 D w
    rw [hd] at this
    cases this
theorem Hid.env {c1 : Co} {D : Addr} {ρ ρ' : Env} {σ σ' : L2.St} {n : Nat} {S' : Store} {accA : List AV} (h : Hid c1 H1 D ρ σ n c' S' accA H') (e : EnvR c' H' ρ' σ') : Hid c1 H1 D ρ' σ' n c' S' accA H' := ⟨h.nx, h.hh, h.htr, h.k, e, h.lst⟩
theorem Hid.mono {c1 : Co} {D : Addr} {ρ : Env} {σ : L2.St} {n m : Nat} {S' : Store} {accA : List AV} (h : Hid c1 H1 D ρ σ n c' S' accA H') (hm : n ≤ m) : Hid c1 H1 D ρ σ m c' S' accA H' := ⟨h.nx, h.hh, h.htr, h.k, h.e, let ⟨acc, a, b, l⟩ := h.lst; ⟨acc, a, b, Nat.le_trans l hm⟩⟩
/-- the list grows -/
theorem Hid.put {c1 : Co} {D : Addr} {ρ : Env} {σ : L2.St} {n : Nat} {S' : Store} {accA : List AV} (hD : H1 D = none) (h : Hid c1 H1 D ρ σ n c' S' accA H') (r : Rel c' H' x v) (hl : n < lim) :
    ∃ acc, H' D = some (.lst acc) ∧ acc.length < sizeLine ∧ Hid c1 H1 D ρ σ (n + 1) c' S' (accA ++ [x]) (upd H' D (.lst (acc ++ [v]))) ∧ Same2 c' c' D H' (upd H' D (.lst (acc ++ [v]))) := by
  obtain ⟨nb, b1, b2, k5, e5, acc, hD5, ra, hn⟩ := h
  have ne1 : ∀ a, H1 a ≠ none → a ≠ D := fun a h z => h (by rw [z]; exact hD)
  refine ⟨acc, hD5, lim_lt (by omega), ?_⟩
  have upk : ∀ a, a ≠ D → upd H' D (.lst (acc ++ [v])) a = H' a := fun a ha => upd_ne ha
  have sm : Same2 c' c' D H' (upd H' D (.lst (acc ++ [v]))) := ⟨rfl, rfl, rfl, fun a _ ho => ⟨fun z => ho.2 (by rw [z]; exact b1), ho⟩, ⟨upk, fun xs z => (by rw [hD5] at z; cases z), fun o u z => (by rw [hD5] at z; cases z)⟩⟩
  have nu : Nxt c1 H1 c' (upd H' D (.lst (acc ++ [v]))) := by
    have ou : ∀ a u, H1 a = some u → upd H' D (.lst (acc ++ [v])) a = H' a := fun a u z => upk a (ne1 a (by rw [z]; simp))
    refine ⟨nb.K, nb.ex, nb.hid, nb.tr, fun a u ha z => by rw [ou a u z]; exact nb.keep a u ha z, fun a u ha z => by rw [ou a u z]; exact nb.hkeep a u ha z, fun a u z => by rw [ou a _ z]; exact nb.tup a u z, fun a o u z => by rw [ou a _ z]; exact nb.frz a o u z, fun a z => ?_⟩
    rw [upk a (ne1 a z)]
    exact nb.live a z
  refine ⟨⟨nu, b1, b2, ?_, e5.hid sm, acc ++ [v], upd_same, (ra.app (.one r)).hid sm, by rw [List.length_append, List.length_singleton]; omega⟩, sm⟩
  refine k5.hid sm (fun a ha z => b2 (by rw [← z]; exact ha)) k5.apart fun a ha => ?_
  by_cases z : a = D
  · rw [z, upd_same]
    simp
  · rw [upk a z]
    exact k5.hl a ha
theorem Hid.start {c1 : Co} {D : Addr} {ρ : Env} {σ : L2.St} {S1 : Store} (k1 : Cor c1 S1 H1) (e1 : EnvR c1 H1 ρ σ) (hD : H1 D = none) : Hid c1 H1 D ρ σ 0 (c1.hide D) S1 [] (upd H1 D (.lst [])) := by
  have hDn := k1.out hD
  have ne1 : ∀ a, H1 a ≠ none → a ≠ D := fun a h z => h (by rw [z]; exact hD)
  have nh : Nxt c1 H1 (c1.hide D) (upd H1 D (.lst [])) := by
    have n := Nxt.new (c := c1) (o := .lst []) hD
    exact ⟨rfl, rfl, ⟨fun _ h => .inr h, fun a h => h.elim (fun z => .inr (by rw [z]; exact hD)) .inl⟩, ⟨[], by simp [Co.hide], fun _ h => absurd h List.not_mem_nil⟩, n.keep, n.hkeep, n.tup, n.frz, n.live⟩
  refine ⟨nh, .inl rfl, hDn.1, ?_, e1.nxt nh, [], upd_same, .nil, Nat.le_refl _⟩
  refine ⟨k1.len, k1.nd, fun a ha z => z.elim (fun z => hDn.1 (by rw [← z]; exact ha)) (k1.apart a ha), fun a ha => ?_, fun i o a e1 e2 => ?_⟩
  · rcases ha with z | z
    · rw [z, upd_same]
      simp
    · exact nh.live a (k1.hl a z)
  · have r := k1.at_ i o a e1 e2
    exact r.nxt nh (upd_ne (ne1 a r.isThere))
/-- the list is shown -/
theorem Hid.done {c1 : Co} {D : Addr} {ρ : Env} {σ : L2.St} {n : Nat} {S' : Store} {accA : List AV} (k1o : c1.Out D) (hD : H1 D = none) (h : Hid c1 H1 D ρ σ n c' S' accA H') {Q : VK}
    (q : ∀ c2 H0 us p, Nxt c1 H1 c2 H0 → Cor c2 S' H0 → H0 p = none → Rels c2 H0 accA us → Q (.ref p) (upd H0 p (.lst us))) : Q (.ref D) H' := by
  obtain ⟨nn, hh, htr, k', e', acc, hd, ra, hl'⟩ := h
  have ne1 : ∀ a, H1 a ≠ none → a ≠ D := fun a h z => h (by rw [z]; exact hD)
  let H0 : Hp := fun a => if a = D then none else H' a
  have h0 : ∀ a, a ≠ D → H0 a = H' a := fun a ha => if_neg ha
  have h0D : H0 D = none := if_pos rfl
  have eH : upd H0 D (.lst acc) = H' := by
    funext a
    by_cases z : a = D
    · rw [z, upd_same, hd]
    · rw [upd_ne z, h0 a z]
  have sm : Same2 c' (c'.unhide D) D H' H0 := ⟨rfl, rfl, rfl, fun a _ ho => ⟨fun z => ho.2 (by rw [z]; exact hh), ho.1, fun z => ho.2 z.2⟩, ⟨h0, fun xs z => (by rw [hd] at z; cases z), fun o u z => (by rw [hd] at z; cases z)⟩⟩
  have nu : Nxt c1 H1 (c'.unhide D) H0 := by
    have ou : ∀ a u, H1 a = some u → H0 a = H' a := fun a u z => h0 a (ne1 a (by rw [z]; simp))
    refine ⟨nn.K, nn.ex, ⟨fun a z => ⟨fun w => k1o.2 (by rw [← w]; exact z), nn.hid.1 a z⟩, fun a z => nn.hid.2 a z.2⟩, nn.tr, fun a u ha z => by rw [ou a u z]; exact nn.keep a u ha z, fun a u ha z => by rw [ou a u z]; exact nn.hkeep a u ha z, fun a u z => by rw [ou a _ z]; exact nn.tup a u z, fun a o u z => by rw [ou a _ z]; exact nn.frz a o u z, fun a z => ?_⟩
    rw [h0 a (ne1 a z)]
    exact nn.live a z
  have r := q (c'.unhide D) H0 acc D nu (k'.hid sm (fun a ha z => htr (by rw [← z]; exact ha)) (fun a ha z => k'.apart a ha z.2) fun a ha => by rw [h0 a ha.1]; exact k'.hl a ha.2) h0D (ra.hid sm)
  rw [eH] at r
  exact r
theorem sl_lc2 {wi wi1 : TI} {di di1 : DI} {g g1 : TG} {dg dg1 : DG} {tt tt1 : TT} {dt dt1 : DT} {te : TE} {de : DE} {vs vs1 : List Nat} (hi : SI W K wi di) (hg : SG K g dg) (hw : GW vs g) (hm : GM g) (ht : ST W0 K tt dt)
    (hi1 : SI W0 K wi1 di1) (hg1 : SG K g1 dg1) (hw1 : GW vs1 g1) (hm1 : GM g1) (ht1 : ST W0 K tt1 dt1) (he : SE W0 K te de) : SEL W K (tLc2 wi g tt wi1 g1 tt1 te vs vs1) (dlLc2 di dg dt di1 dg1 dt1 de vs vs1) := by
  intro ρ S c σ H Q hK k e h
  refine hi ρ S c σ H _ hK k e (Res.post_mono (Res.post_bind.mp h) (fun its S1 h1 => ?_) fun _ _ z => z)
  intro c1 H1 J n1 k1 ⟨G, Y, w, hG, hY⟩ D hD
  have e1 := (e.nxt n1).wipe vs
  have hK1 := n1.K.trans hK
  let X : AV → Store → Prop := Fall c H (WE W σ)
  let G0 : List AV → List AV → Store → Prop := fun accA ys S2 => ∀ c2 H0 us p, Nxt c H c2 H0 → Cor c2 S2 H0 → H0 p = none → Rels c2 H0 (accA ++ ys) us → Q (.ref p) (upd H0 p (.lst us))
  let P : Nat → Hp → Prop := fun i H' => i ≤ its.xs.length ∧ ∃ m c' S' accA, Hid c1 H1 D (wipeE ρ vs) (L2.wipe σ vs) m c' S' accA H' ∧
    (lc2L its.gd dg dt di1 dg1 dt1 de vs1 (wipeE ρ vs) m (its.xs.drop i) S').post (G0 accA) X
  refine u_it (S := fun N x H' => g x (L2.wipe σ vs) H' fun σ2 H2 => L2.wipe σ2 vs = L2.wipe σ vs ∧ tt σ2 H2 fun b H3 =>
    if b = true then wi1 σ2 H3 fun J1 H4 => ∃ W1 : Nat → Nat → Hp → Prop, (∃ m, W1 0 m H4) ∧ ∀ j k H, W1 j k H →
      (J1.stop j H ∧ N H) ∨ (J1.go j H ∧ ∃ Nx1 : Hp → Prop, (∀ H', Nx1 H' → ∃ k', k' < k ∧ W1 (j + 1) k' H') ∧ ∀ x H', J1.yld j H x H' → g1 x (L2.wipe σ2 vs1) H' fun σ3 H5 => L2.wipe σ3 vs1 = L2.wipe σ2 vs1 ∧ tt1 σ3 H5 fun b H6 =>
        if b = true then te σ3 H6 fun y H7 => ∃ acc, H7 D = some (.lst acc) ∧ acc.length < sizeLine ∧ Nx1 (upd H7 D (.lst (acc ++ [y]))) else Nx1 H6)
    else N H3) w P ?_ ?_ ?_ ?_
  · exact ⟨Nat.zero_le _, 0, _, S1, [], Hid.start k1 e1 hD, h1⟩
  · rintro i H' ⟨hil, m, c', S', accA, hd, p⟩
    exact hG c' S' H' hd.nx.w hd.k (lc2L_gd p)
  · rintro i x H' H2 hi' ⟨hil, m, c', S', accA, hd, p⟩ y
    have gS := lc2L_gd p
    obtain ⟨z, hz, n2, k2, r2⟩ := hY i x H' H2 c' S' hi' hd.nx.w hd.k gS y
    have hdr : its.xs.drop i = z :: its.xs.drop (i + 1) := by
      obtain ⟨hl2, hz'⟩ := List.getElem?_eq_some_iff.mp hz
      rw [List.drop_eq_getElem_cons hl2, hz']
    rw [hdr] at p
    unfold lc2L at p
    rw [if_pos gS] at p
    have hK' := hd.nx.K.trans hK1
    have hd2 := hd.go n2 k2
    cases q : dg z (wipeE ρ vs) with
    | none =>
      rw [q] at p
      exact False.elim p
    | some ρ1 =>
      rw [q] at p
      simp only at p
      refine hm _ _ _ _ _ (hw _ _ _ _ (hg z x (wipeE ρ vs) ρ1 S' c' _ H2 (fun σ2 H3 => ∃ c3, Nxt c' H2 c3 H3 ∧ Cor c3 S' H3 ∧ EnvR c3 H3 ρ1 σ2) hK' k2 hd2.e r2 q fun c3 H3 σ3 n3 k3 e3 => ⟨c3, n3, k3, e3⟩)) ?_
      rintro σ2 H3 ⟨hwp, c3, n3, k3, e3⟩
      refine ⟨hwp.trans wipe_wipe, ?_⟩
      have hd3 := hd2.go n3 k3
      have hK3 := n3.K.trans hK'
      refine ht ρ1 S' c3 σ2 H3 _ hK3 k3 e3 (Res.post_mono (nox_post (Res.post_bind.mp p)) (fun b S3 gg => ?_) fun _ _ z => z)
      intro c4 H4 n4 k4
      have hd4 := hd3.go n4 k4
      have hK4 := n4.K.trans hK3
      cases b with
      | false => exact ⟨hi', m, c4, S3, accA, hd4, gg⟩
      | true =>
        have e4 := e3.nxt n4
        refine hi1 ρ1 S3 c4 σ2 H4 _ hK4 k4 e4 (Res.post_mono (nox_post (Res.post_bind.mp gg)) (fun its1 S4 g2 => ?_) fun _ _ z => z)
        intro c5 H5 J1 n5 k5 ⟨G1, Y1, w1, hG1, hY1⟩
        have hd5 := hd4.go n5 k5
        have hK5 := n5.K.trans hK4
        have e5 := (e4.nxt n5).wipe vs1
        split at g2
        next hlim =>
          let P1 : Nat → Hp → Prop := fun j H' => j ≤ its1.xs.length ∧ ∃ c' S' accB, Nxw c5 H5 c' H' ∧ Hid c1 H1 D (wipeE ρ1 vs1) (L2.wipe σ2 vs1) (m + j) c' S' accB H' ∧ EnvR c' H' (wipeE ρ vs) (L2.wipe σ vs) ∧
            (lcL its1.gd dg1 dt1 de (wipeE ρ1 vs1) (its1.xs.drop j) S').post (fun ys S3 => ((lc2L its.gd dg dt di1 dg1 dt1 de vs1 (wipeE ρ vs) (m + its1.xs.length) (its.xs.drop (i + 1)) S3).post (fun zs S4 => G0 accB (ys ++ zs) S4) X)) X
          refine u_it (S := fun N x H' => g1 x (L2.wipe σ2 vs1) H' fun σ3 H5 => L2.wipe σ3 vs1 = L2.wipe σ2 vs1 ∧ tt1 σ3 H5 fun b H6 =>
            if b = true then te σ3 H6 fun y H7 => ∃ acc, H7 D = some (.lst acc) ∧ acc.length < sizeLine ∧ N (upd H7 D (.lst (acc ++ [y]))) else N H6) w1 P1 ?_ ?_ ?_ ?_
          · refine ⟨Nat.zero_le _, c5, S4, accA, (Nxt.refl _ _).w, hd5.env e5, hd5.e, ?_⟩
            rw [List.drop_zero]
            exact Res.post_mono (Res.post_bind.mp g2) (fun ys S5 g3 => Res.post_bind.mp g3) fun _ _ z => z
          · rintro j Hj ⟨hjl, c6, S6, accB, n6, hd6, _, p6⟩
            exact hG1 c6 S6 Hj n6 hd6.k (lcL_gd p6)
          · rintro j xj Hj Hj2 hj ⟨hjl, c6, S6, accB, n6, hd6, eo, p6⟩ yj
            have gS6 := lcL_gd p6
            obtain ⟨z6, hz6, n7, k7, r7⟩ := hY1 j xj Hj Hj2 c6 S6 hj n6 hd6.k gS6 yj
            have hdr6 : its1.xs.drop j = z6 :: its1.xs.drop (j + 1) := by
              obtain ⟨hl2, hz'⟩ := List.getElem?_eq_some_iff.mp hz6
              rw [List.drop_eq_getElem_cons hl2, hz']
            rw [hdr6] at p6
            unfold lcL at p6
            rw [if_pos gS6] at p6
            have hK6 := n6.K.trans hK5
            have hd7 := hd6.go n7 k7
            cases q6 : dg1 z6 (wipeE ρ1 vs1) with
            | none =>
              rw [q6] at p6
              exact False.elim p6
            | some ρ2 =>
              rw [q6] at p6
              simp only at p6
              refine hm1 _ _ _ _ _ (hw1 _ _ _ _ (hg1 z6 xj (wipeE ρ1 vs1) ρ2 S6 c6 _ Hj2 (fun σ3 H8 => ∃ c8, Nxt c6 Hj2 c8 H8 ∧ Cor c8 S6 H8 ∧ EnvR c8 H8 ρ2 σ3) hK6 k7 hd7.e r7 q6 fun c8 H8 σ3 n8 k8 e8 => ⟨c8, n8, k8, e8⟩)) ?_
              rintro σ3 H8 ⟨hwp8, c8, n8, k8, e8⟩
              refine ⟨hwp8.trans wipe_wipe, ?_⟩
              have n78 := n7.trans n8
              have hd8 := hd6.go n78 k8
              have hK8 := n8.K.trans hK6
              refine ht1 ρ2 S6 c8 σ3 H8 _ hK8 k8 e8 (Res.post_mono (nox_post (Res.post_bind.mp p6)) (fun b S9 g9 => ?_) fun _ _ z => z)
              intro c9 H9 n9 k9
              have n79 := n78.trans n9
              have hd9 := hd6.go n79 k9
              cases b with
              | false => exact ⟨hj, c9, S9, accB, n6.trans n79.w, hd9.mono (by omega), eo.nxt n79, g9⟩
              | true =>
                have e9 := e8.nxt n9
                refine he ρ2 S9 c9 σ3 H9 _ (n9.K.trans hK8) k9 e9 (Res.post_mono (nox_post (Res.post_bind.mp g9)) (fun w S10 g10 => ?_) fun _ _ z => z)
                intro c10 H10 v10 n10 k10 r10
                have n710 := n79.trans n10
                have hd10 := hd6.go n710 k10
                obtain ⟨acc, ha, hl, hp, sm⟩ := hd10.put hD r10 (by omega)
                refine ⟨acc, ha, hl, hj, c10, S10, accB ++ [w], ?_, hp, ?_, Res.post_mono (Res.post_bind.mp g10) (fun ys S11 g11 => ?_) fun _ _ z => z⟩
                · have nn := n6.trans n710.w
                  obtain ⟨acc5, hD5, _⟩ := hd5.lst
                  have ne5 : ∀ a o, H5 a = some o → (∀ zs, o ≠ .lst zs) → a ≠ D := fun a o z no w => no acc5 (by rw [w, hD5] at z; exact (Option.some.inj z).symm)
                  refine ⟨nn.K, nn.ex, nn.hid, nn.tr, fun a o ho z => ?_, fun a o z => ?_, fun a o u z => ?_, fun a z => ?_⟩
                  · rw [upd_ne fun w => ho.2 (by rw [w]; exact hd5.hh)]
                    exact nn.keep a o ho z
                  · rw [upd_ne (ne5 a _ z fun _ w => nomatch w)]
                    exact nn.tup a o z
                  · rw [upd_ne (ne5 a _ z fun _ w => nomatch w)]
                    exact nn.frz a o u z
                  · by_cases w : a = D
                    · rw [w, upd_same]
                      simp
                    · rw [upd_ne w]
                      exact nn.live a z
                · exact (eo.nxt n710).hid sm
                · exact Res.post_mono g11 (fun zs S12 g12 => by
                    show G0 (accB ++ [w]) (ys ++ zs) S12
                    intro c2 H0 us p m1 m2 m3 m4
                    rw [List.append_assoc] at m4
                    exact g12 c2 H0 us p m1 m2 m3 m4) fun _ _ z => z
          · rintro Hj ⟨hjl, c6, S6, accB, n6, hd6, eo, p6⟩
            rw [List.drop_length] at p6
            unfold lcL at p6
            split at p6
            · exact ⟨hi', m + its1.xs.length, c6, S6, accB, hd6.env eo, Res.post_mono (show ((lc2L its.gd dg dt di1 dg1 dt1 de vs1 (wipeE ρ vs) (m + its1.xs.length) (its.xs.drop (i + 1)) S6).post (fun zs S4 => G0 accB ([] ++ zs) S4) X) from p6) (fun zs S7 g7 => by simpa using g7) fun _ _ z => z⟩
            · exact False.elim p6
        next => exact False.elim g2
  · rintro H' ⟨hil, m, c', S', accA, hd, p⟩
    rw [List.drop_length] at p
    unfold lc2L at p
    split at p
    · have p : G0 accA [] S' := p
      refine hd.done (k1.out hD) hD fun c2 H0 us p2 m1 m2 m3 m4 => p c2 H0 us p2 (n1.trans m1) m2 m3 (by rw [List.append_nil]; exact m4)
    · exact False.elim p
/-! ### try .. except X, where nothing is raised -/
def noxS (r : RS) : RS := match r with
  | .go (.xc _ _) _ => .bad
  | r => r
def dNoxS (ds : DS) : DS := fun ρ S => noxS (ds ρ S)
theorem ss_tryN {tb : WX → TS} {ds : DS} {cc : Value} {ts : Addr → Value → Option Addr → TS} {Wout : WX} (h : ∀ W' : WX, SS W' K (tb W') ds) : SS W K (fun D σ H => tb (wOnly K cc ts Wout D) D σ H) (dNoxS ds) := by
  intro ρ S c σ H D hK k e p
  refine h _ ρ S c σ H D hK k e ?_
  unfold dNoxS noxS at p
  cases q : ds ρ S with
  | bad =>
    rw [q] at p
    exact False.elim p
  | go f S2 =>
    rw [q] at p
    cases f with
    | xc ρ2 x => exact False.elim p
    | _ => exact p
end
end Dl
set_option Elab.async false
set_option linter.all false
set_option maxRecDepth 100000
set_option maxHeartbeats 4000000
namespace My
open PySem PySem.Spec PyProof.Rows L2 Evl Cm
def top (i : Nat) : Stmt := PySem.Challenge.pw_swappedhot_k03_wrong_names.main.body.getD i (.Pass ⟨0, 0, 0, 0⟩)
structure Txt (K : PySem.W.Frag) (mg : Str → Option Value) : Prop where
  b_len : mg "len" = none
  b_abs : mg "abs" = none
  b_int : mg "int" = none
  b_isinstance : mg "isinstance" = none
  b_tuple : mg "tuple" = none
  b_list : mg "list" = none
  b_dict : mg "dict" = none
  b_str : mg "str" = none
  b_bool : mg "bool" = none
  b_all : mg "all" = none
  b_range : mg "range" = none
  b_zip : mg "zip" = none
  b_ValueError : mg "ValueError" = none
section
variable {P : Program} {w : World} {K : PySem.W.Frag} {mg : Str → Option Value} {base : Heap}

/-! ### the law's pool -/
abbrev s__law_pool : Stmt := top 40
abbrev N__law_pool : List Str := ["_law_script", "_law_cells", "_law_great", "_law_small", "_law_cell"]
theorem sc__law_pool : FnScope N__law_pool ["_law_script"] (defScope s__law_pool) := ⟨rfl, rfl, rfl, by decide +kernel, rfl, by decide +kernel, by decide +kernel⟩
def spPool (K : PySem.W.Frag) : Sp := fun vs H Q _ => ∃ (a : Addr) (ns : List Int), vs = [.ref a] ∧ SqL K H a (ns.map V.int) ∧ ns.length ≤ 63 ∧ ∀ p H', Ex H H' → H p = none → PoolAt (fun a => H a ≠ none) H' p → Q (.ref p) H'
theorem ok_pool (T : Txt K mg) {f : Addr} {fd : FuncData} (F : Fun K "_law_pool" "_law_pool" s__law_pool f fd) : FnOk P w K mg base CX0 1 f fd ["_law_script"] (spPool K) := by
  refine F.ok sc__law_pool (fun vs H Q E h => ?_) (fun cdv A outer s H vs Q E hr h => ?_)
  · obtain ⟨a, ns, rfl, _⟩ := h
    rfl
  obtain ⟨a, ns, rfl, hS, hl, k⟩ := h
  refine ⟨_, (pss_cons (ps_setLc (i := 1) (own := [("_law_cell", 4)]) (g := (gName 4)) (tt := tYes) rfl sc__law_pool.nd rfl rfl (sw_true rfl rfl rfl (by decide +kernel)) (pi_list (pe_slice sl_list (pv 0) po_none (po_some pe_int))) (blkOk_by (own := [("_law_cell", 4)]) (N := N__law_pool) (sc := defScope s__law_pool) (by decide +kernel)) (fun _ _ _ _ _ => (pg_name (i := 4) sc__law_pool.nd rfl (Or.inl rfl))) (fun _ _ _ _ _ => pts_nil) (fun _ _ _ _ _ => (pe_callTy call_int1 (by rfl) T.b_int (by decide +kernel) (pa_cons (pv 4) pa_nil))))
  (pss_cons (ps_setLc (i := 2) (own := [("_law_cell", 4)]) (g := (gName 4)) rfl sc__law_pool.nd rfl rfl (sw_true rfl rfl rfl (by decide +kernel)) (pi_list (pv 1)) (blkOk_by (own := [("_law_cell", 4)]) (N := N__law_pool) (sc := defScope s__law_pool) (by decide +kernel)) (fun _ _ _ _ _ => (pg_name (i := 4) sc__law_pool.nd rfl (Or.inl rfl))) (fun _ _ _ _ _ => (pts_one (pt_cmpR op_ge (pe_callB call_abs (by rfl) T.b_abs (by decide +kernel) (pa_cons (pv 4) pa_nil)) (pe_op op_pow pe_int pe_int) (nomark _)))) (fun _ _ _ _ _ => (pe_callB call_abs (by rfl) T.b_abs (by decide +kernel) (pa_cons (pv 4) pa_nil))))
  (pss_cons (ps_setLc (i := 3) (own := [("_law_cell", 4)]) (g := (gName 4)) rfl sc__law_pool.nd rfl rfl (sw_true rfl rfl rfl (by decide +kernel)) (pi_list (pv 1)) (blkOk_by (own := [("_law_cell", 4)]) (N := N__law_pool) (sc := defScope s__law_pool) (by decide +kernel)) (fun _ _ _ _ _ => (pg_name (i := 4) sc__law_pool.nd rfl (Or.inl rfl))) (fun _ _ _ _ _ => (pts_one (pt_cmpR op_lt (pe_callB call_abs (by rfl) T.b_abs (by decide +kernel) (pa_cons (pv 4) pa_nil)) (pe_op op_pow pe_int pe_int) (nomark _)))) (fun _ _ _ _ _ => (pe_op op_mod (pe_callTy call_int1 (by rfl) T.b_int (by decide +kernel) (pa_cons (pv 4) pa_nil)) pe_int)))
  (pss_one (ps_ret (pe_lst (pa_cons (pv 2) (pa_cons (pv 3) (pa_cons pe_int (pa_cons pe_int pa_nil)))))))))), ?_⟩
  obtain ⟨cs, ec, hcl⟩ := cut_ints ns none (some 63)
  have e18 : ∀ (H1 : Hp) (σ : L2.St), Ev (tOp (rI CPow fun i j => .int (i ^ j.toNat)) (tC (.int 10)) (tC (.int 18))) σ H1 (.int ((10 : Int) ^ (18 : Int).toNat)) := fun H1 σ =>
    ev_op ev_c ev_c (rv_I ⟨by decide, by decide, by decide⟩)
  have eabs : ∀ {H1 : Hp} {σ : L2.St} {x : Int}, σ[4]? = some (some (.int x)) → Ev (tCB (fun xs H Q => ∃ i, xs = [.int i] ∧ Q (.int (if i < 0 then -i else i)) H) (tCons (tVar 4) tNil)) σ H1 (.int (absI x)) := fun h =>
    ev_cb (ea_cons (ev_var h) ea_nil) fun H2 _ Q q => ⟨_, rfl, q H2 (Ex.refl H2)⟩
  have eint : ∀ {H1 : Hp} {σ : L2.St} {x : Int}, σ[4]? = some (some (.int x)) → Ev (tCB (fun xs H Q => (∃ i, xs = [.int i] ∧ Q (.int i) H) ∨ ∃ k, xs = [.bl k] ∧ Q (.int (if k then 1 else 0)) H) (tCons (tVar 4) tNil)) σ H1 (.int x) := fun h =>
    ev_cb (ea_cons (ev_var h) ea_nil) fun H2 _ Q q => .inl ⟨_, rfl, q H2 (Ex.refl H2)⟩
  refine q_asgL (xs := cs.map V.int) ?_ fun p1 H1 n1 e1 h1 => ?_
  · rw [show cs.map V.int = given (cutV (ns.map V.int) none (some 63)).length (fun _ => true) (fun i => V.int (cs.getD i 0)) by rw [ec, given_all]]
    refine el_lcNL (K := K) (j := 4) (vs := [4]) _ _ (el_sl (te := tVar 0) (ev_var rfl) eo_none (eo_some (i := 63) ev_c) hS) (by rw [ec, List.length_map]; omega) (fun _ => rfl) (fun i x H1 _ hx => fun H2 _ Q q => q H2 (Ex.refl H2)) (fun i x H1 _ hx _ => ?_)
    rw [ec] at hx
    rw [map_getD hx]
    exact eint rfl
  refine q_asgL (xs := given (cs.map V.int).length (fun i => decide ((10 : Int) ^ (18 : Int).toNat ≤ absI (cs.getD i 0))) (fun i => V.int (absI (cs.getD i 0)))) ?_ fun p2 H2 n2 e2 h2 => ?_
  · refine el_lcL (K := K) (j := 4) (vs := [4]) _ _ (ev_var (i := 1) rfl) (sq_of h1) (by rw [List.length_map]; omega) (fun _ => rfl) (fun i x H1 _ hx => ?_) (fun i x H1 _ hx _ => ?_)
    · rw [map_getD hx]
      exact et_test (ev_op (eabs rfl) (e18 _ _) rv_I0)
    · rw [map_getD hx]
      exact eabs rfl
  refine q_asgL (xs := given (cs.map V.int).length (fun i => decide (absI (cs.getD i 0) < (10 : Int) ^ (18 : Int).toNat)) (fun i => V.int (cs.getD i 0 % 1000003))) ?_ fun p3 H3 n3 e3 h3 => ?_
  · refine el_lcL (K := K) (j := 4) (vs := [4]) _ _ (ev_var (i := 1) rfl) (sq_of (e2 _ _ h1)) (by rw [List.length_map]; omega) (fun _ => rfl) (fun i x H1 _ hx => ?_) (fun i x H1 _ hx _ => ?_)
    · rw [map_getD hx]
      exact et_test (ev_op (eabs rfl) (e18 _ _) rv_I0)
    · rw [map_getD hx]
      exact ev_op (eint rfl) ev_c (rv_I (by show (0 : Int) < 1000003; decide))
  refine s_retL (el_lst (ea_cons (ev_var rfl) (ea_cons (ev_var rfl) (ea_cons ev_c (ea_cons ev_c ea_nil)))) (by show 4 ≤ 100000; decide)) fun p H4 n4 e4 h4 => ?_
  rw [given_ints] at h2 h3
  refine k p H4 (e1.trans (e2.trans (e3.trans e4))) (fresh_back (e1.trans (e2.trans e3)) n4) ⟨p2, p3, _, _, 0, 0, h4, e4 _ _ (e3 _ _ h2), e4 _ _ h3, fun x hx => ?_, fun x hx => ?_, Int.le_refl 0, Int.le_refl 0, fun z => z (fresh_back e1 n2), fun z => z (fresh_back (e1.trans e2) n3)⟩
  · obtain ⟨i, hi, rfl⟩ := given_mem hx
    have h := of_decide_eq_true hi
    exact Int.lt_of_lt_of_le (by decide) h
  · obtain ⟨i, hi, rfl⟩ := given_mem hx
    constructor
    · exact Int.emod_nonneg _ (by decide)
    · exact Int.emod_lt_of_pos _ (by decide)

abbrev s__law_draw : Stmt := top 41
abbrev N__law_draw : List Str := ["_law_pool_here", "_law_many", "_law_great", "_law_digit", "_law_seed", "_law_number"]
theorem sc__law_draw : FnScope N__law_draw ["_law_pool_here", "_law_many"] (defScope s__law_draw) := ⟨rfl, rfl, rfl, by decide +kernel, rfl, by decide +kernel, by decide +kernel⟩
def spDraw : Sp := fun vs H Q _ => ∃ (M : Addr → Prop) (p : Addr) (m : Int), vs = [.ref p, .int m] ∧ Live M H ∧ PoolAt M H p ∧ 0 < m ∧ m.natAbs.log2 < 9000 ∧ ∀ d H', 0 ≤ d → d < m → SmB p H H' → PoolAt M H' p → Q (.int d) H'
theorem ok_draw (T : Txt K mg) {f : Addr} {fd : FuncData} (F : Fun K "_law_draw" "_law_draw" s__law_draw f fd) : FnOk P w K mg base CX0 1 f fd ["_law_pool_here", "_law_many"] spDraw := by
  refine F.ok sc__law_draw (fun vs H Q E h => ?_) (fun cdv A outer s H vs Q E hr h => ?_)
  · obtain ⟨M, a, ns, rfl, _⟩ := h
    rfl
  obtain ⟨M, p, m, rfl, hM, hP, hm, hlog, k⟩ := h
  refine ⟨_, (pss_cut (ps_if (PW.pt (pw_and (pt_cmpR op_eq (pe_ix ix_list (pv 0) pe_int (fun _ _ => rfl)) pe_int (nomark _)) (pw_and1 (pt_cmpR op_gt (pe_callB call_len_seq (by rfl) T.b_len (by decide +kernel) (pa_cons (pe_ix ix_list (pv 0) pe_int (fun _ _ => rfl)) pa_nil)) pe_int (nomark _))))) (pss_cons (ps_set (i := 2) sc__law_draw.nd rfl (Or.inl rfl) (pe_ix ix_list (pv 0) pe_int (fun _ _ => rfl)))
  (pss_cons (ps_asg (pe_ix ix_list (pv 2) pe_int (fun _ _ => rfl)) (pg_sub (pv 0) pe_int set_list))
  (pss_one (ps_asg (pe_slice sl_list (pv 2) (po_some pe_int) po_none) (pg_sub (pv 0) pe_int set_list))))) pss_nil)
  (pss_cons (ps_if (pt_cmpR op_gt (pe_ix ix_list (pv 0) pe_int (fun _ _ => rfl)) pe_int (nomark _)) (pss_cons (ps_set (i := 3) sc__law_draw.nd rfl (Or.inl rfl) (pe_op op_mod (pe_callTy call_int1 (by rfl) T.b_int (by decide +kernel) (pa_cons (pe_ix ix_list (pv 0) pe_int (fun _ _ => rfl)) pa_nil)) (pv 1)))
  (pss_cons (ps_asg (pe_op op_fdivW (pe_ix ix_list (pv 0) pe_int (fun _ _ => rfl)) (pv 1)) (pg_sub (pv 0) pe_int set_list))
  (pss_one (ps_ret (pv 3))))) pss_nil)
  (pss_cons (ps_asg (pe_op op_add (pe_ix ix_list (pv 0) pe_int (fun _ _ => rfl)) pe_int) (pg_sub (pv 0) pe_int set_list))
  (pss_cons (ps_set (i := 4) sc__law_draw.nd rfl (Or.inl rfl) pe_int)
  (pss_cut (ps_if (pt_cmpR op_gt (pe_callB call_len_seq (by rfl) T.b_len (by decide +kernel) (pa_cons (pe_ix ix_list (pv 0) pe_int (fun _ _ => rfl)) pa_nil)) pe_int (nomark _)) (pss_one (ps_set (i := 4) sc__law_draw.nd rfl (Or.inl rfl) (pe_ix ix_list (pe_ix ix_list (pv 0) pe_int (fun _ _ => rfl)) (pe_op op_mod (pe_callTy call_int1 (by rfl) T.b_int (by decide +kernel) (pa_cons (pe_ix ix_list (pv 0) pe_int (fun _ _ => rfl)) pa_nil)) (pe_callB call_len_seq (by rfl) T.b_len (by decide +kernel) (pa_cons (pe_ix ix_list (pv 0) pe_int (fun _ _ => rfl)) pa_nil))) (fun _ _ => rfl)))) pss_nil)
  (pss_cons (ps_set (i := 5) sc__law_draw.nd rfl (Or.inl rfl) (pe_op op_mod (pe_callTy call_int1 (by rfl) T.b_int (by decide +kernel) (pa_cons (pe_op op_mul (pe_op op_add (pe_op op_add (pv 4) (pe_op op_mul pe_int (pe_ix ix_list (pv 0) pe_int (fun _ _ => rfl)))) pe_int) pe_int) pa_nil)) pe_int))
  (pss_cons (ps_set (i := 5) sc__law_draw.nd rfl (Or.inl rfl) (pe_op op_mod (pe_callTy call_int1 (by rfl) T.b_int (by decide +kernel) (pa_cons (pe_op op_mul (pv 5) (pe_op op_add (pe_op op_fdiv (pv 5) pe_int) pe_int)) pa_nil)) pe_int))
  (pss_cons (ps_set (i := 5) sc__law_draw.nd rfl (Or.inl rfl) (pe_op op_mod (pe_callTy call_int1 (by rfl) T.b_int (by decide +kernel) (pa_cons (pe_op op_mul (pv 5) (pe_op op_add (pe_op op_fdiv (pv 5) pe_int) pe_int)) pa_nil)) pe_int))
  (pss_one (ps_ret (pe_op op_mod (pe_callTy call_int1 (by rfl) T.b_int (by decide +kernel) (pa_cons (pe_op op_fdiv (pv 5) pe_int) pa_nil)) (pv 1)))))))))))), ?_⟩
  refine q_cut (M := fun σ' H' => ∃ x, σ' = [some (.ref p), some (.int m), x, none, none, none] ∧ SmB p H H' ∧ PoolAt M H' p) ?_ ?_
  · obtain ⟨g, s, gs, ss, cur, cnt, hP⟩ := hP
    have pix : ∀ {H1 : Hp} {j : Int} {v : V}, Ex H H1 → atI [V.ref g, .ref s, .int cur, .int cnt] j = some v → Ev (tOp (rIxL K) (tVar 0) (tC (.int j))) (L2.start N__law_draw [.ref p, .int m]) H1 v := fun e h =>
      ev_op (ev_var rfl) ev_c (rv_ixL (sq_of (e _ _ hP.obj)) h)
    refine s_when (et_and (et_test (ev_op (pix (Ex.refl _) rfl) ev_c (rv_eq rfl))) fun _ => et_test (ev_op (ev_lenL (pix (Ex.refl _) rfl) (sq_of hP.great)) ev_c rv_I0)) (fun hb H1 e1 => ?_) (fun hb H1 e1 => ?_)
    · have hlen := of_decide_eq_true (Bool.and_eq_true_iff.mp hb).2
      cases gs with
      | nil => exact absurd hlen (by decide)
      | cons y r =>
        refine q_asg (pix e1 rfl) fun H2 e2 => ?_
        have hP2 := (hP.ex e1).ex e2
        refine q_setL (j := 2) hP2.obj (ev_op (ev_var rfl) ev_c (rv_ixL (sq_of hP2.great) (at_of (j := 0) (v := V.int y) rfl rfl))) (ev_var rfl) ev_c (by show 2 < 4; decide) fun H3 e3 => ?_
        have hP3 := hP2.ex e3
        have hg3 : (upd H3 p (.lst ([V.ref g, .ref s, .int cur, .int cnt].set 2 (.int y)))) g = some (.lst ((y :: r).map V.int)) := by
          rw [upd_ne hP3.ng]
          exact hP3.great
        refine s_setLL (j := 0) upd_same (el_sl (ev_var rfl) (eo_some ev_c) eo_none (sq_of hg3)) (ev_var rfl) ev_c (by show 0 < 4; decide) fun q H4 hq e4 h4 => ?_
        rw [cut1] at h4
        have hnqp : q ≠ p := fun z => by
          rw [z, upd_same] at hq
          cases hq
        refine ⟨_, rfl, ?_, q, s, r, ss, y, cnt, upd_same, ?_, ?_, fun x hx => hP.gpos x (List.mem_cons_of_mem _ hx), hP.srng, Int.le_of_lt (hP.gpos y List.mem_cons_self), hP.cnt0, fun z => ?_, hP.ms⟩
        · exact (((SmB.of (e1.trans (e2.trans e3))).trans SmB.upd).trans (SmB.of e4)).trans SmB.upd
        · rw [upd_ne hnqp]
          exact h4
        · rw [upd_ne hP.ns]
          refine e4 _ _ ?_
          rw [upd_ne hP.ns]
          exact hP3.small
        · have hq3 : H3 q = none := by
            rw [upd_ne hnqp] at hq
            exact hq
          exact hM q z (fresh_back (e1.trans (e2.trans e3)) hq3)
    · exact ⟨_, rfl, SmB.of e1, (PoolAt.ex ⟨g, s, gs, ss, cur, cnt, hP⟩ e1)⟩
  rintro σ' H1 ⟨x2, rfl, s1, g, s, gs, ss, cur, cnt, hP1⟩
  have pix : ∀ {H2 : Hp} {σ2 : L2.St} {j : Int} {v : V}, σ2[0]? = some (some (.ref p)) → H2 p = some (.lst [V.ref g, .ref s, .int cur, .int cnt]) → atI [V.ref g, .ref s, .int cur, .int cnt] j = some v → Ev (tOp (rIxL K) (tVar 0) (tC (.int j))) σ2 H2 v := fun hv ho h =>
    ev_op (ev_var hv) ev_c (rv_ixL (sq_of ho) h)
  refine q_when (et_test (ev_op (pix rfl hP1.obj rfl) ev_c rv_I0)) (fun hb H2 e2 => ?_) (fun hb H2 e2 => ?_)
  · have hP2 := hP1.ex e2
    refine q_asg (ev_op (ev_int (K := K) (pix rfl hP2.obj rfl)) (ev_var rfl) (rv_I hm)) fun H3 e3 => ?_
    have hP3 := hP2.ex e3
    refine q_setL (j := 2) hP3.obj (ev_op (pix rfl hP3.obj rfl) (ev_var rfl) (rv_I ⟨hm, hlog⟩)) (ev_var rfl) ev_c (by show 2 < 4; decide) fun H4 e4 => ?_
    have hP4 := hP3.ex e4
    refine s_ret (ev_var rfl) fun H5 e5 => k _ _ (Int.emod_nonneg _ (by omega)) (Int.emod_lt_of_pos _ hm) ?_ (PoolAt.ex ⟨g, s, gs, ss, cur / m, cnt, upd_same, ?_, ?_, hP1.gpos, hP1.srng, Int.ediv_nonneg hP1.cur0 (Int.le_of_lt hm), hP1.cnt0, hP1.mg, hP1.ms⟩ e5)
    · exact ((s1.trans (SmB.of (e2.trans (e3.trans e4)))).trans SmB.upd).trans (SmB.of e5)
    · rw [upd_ne hP1.ng]
      exact hP4.great
    · rw [upd_ne hP1.ns]
      exact hP4.small
  · have hP2 := hP1.ex e2
    refine q_setL (j := 3) hP2.obj (ev_op (pix rfl hP2.obj rfl) ev_c rv_I0) (ev_var rfl) ev_c (by show 3 < 4; decide) fun H3 e3 => ?_
    have hP3 : PoolS M (upd H3 p (.lst ([V.ref g, .ref s, .int cur, .int cnt].set 3 (.int (cnt + 1))))) p g s gs ss cur (cnt + 1) := by
      have z := hP2.ex e3
      refine ⟨upd_same, ?_, ?_, z.gpos, z.srng, z.cur0, by have := z.cnt0; omega, z.mg, z.ms⟩
      · rw [upd_ne z.ng]
        exact z.great
      · rw [upd_ne z.ns]
        exact z.small
    have s3 : SmB p H (upd H3 p (.lst ([V.ref g, .ref s, .int cur, .int cnt].set 3 (.int (cnt + 1))))) := (s1.trans (SmB.of (e2.trans e3))).trans SmB.upd
    generalize upd H3 p (.lst ([V.ref g, .ref s, .int cur, .int cnt].set 3 (.int (cnt + 1)))) = H3 at hP3 s3
    refine q_asg ev_c fun H4 e4 => ?_
    have hP4 := hP3.ex e4
    have s4 := s3.trans (SmB.of (a := p) e4)
    have pix4 : ∀ {H2 : Hp} {σ2 : L2.St} {j : Int} {v : V}, σ2[0]? = some (some (.ref p)) → H2 p = some (.lst [V.ref g, .ref s, .int cur, .int (cnt + 1)]) → atI [V.ref g, .ref s, .int cur, .int (cnt + 1)] j = some v → Ev (tOp (rIxL K) (tVar 0) (tC (.int j))) σ2 H2 v := fun hv ho h =>
      ev_op (ev_var hv) ev_c (rv_ixL (sq_of ho) h)
    refine q_cut (M := fun σ' H' => ∃ sd : Int, σ' = [some (.ref p), some (.int m), x2, none, some (.int sd), none] ∧ Ex H4 H') ?_ ?_
    · refine s_when (et_test (ev_op (ev_lenL (pix4 rfl hP4.obj rfl) (sq_of hP4.small)) ev_c rv_I0)) (fun hb H5 e5 => ?_) (fun hb H5 e5 => ?_)
      · have hlen := of_decide_eq_true hb
        rw [List.length_map] at hlen
        have hP5 := hP4.ex e5
        have h0 : 0 ≤ (cnt + 1) % (ss.length : Int) := Int.emod_nonneg _ (by omega)
        have h1 : (cnt + 1) % (ss.length : Int) < (ss.length : Int) := Int.emod_lt_of_pos _ (by omega)
        have hi : ((cnt + 1) % (ss.length : Int)).toNat < ss.length := by omega
        have ha : atI (ss.map V.int) ((cnt + 1) % ((ss.map V.int).length : Int)) = some (.int ss[((cnt + 1) % (ss.length : Int)).toNat]) := by
          rw [List.length_map]
          refine at_of (j := ((cnt + 1) % (ss.length : Int)).toNat) (by omega) ?_
          rw [List.getElem?_map, List.getElem?_eq_getElem hi]
          rfl
        refine s_asg (ev_op (pix4 rfl hP5.obj rfl) (ev_op (ev_int (K := K) (pix4 rfl hP5.obj rfl)) (ev_lenL (pix4 rfl hP5.obj rfl) (sq_of hP5.small)) (rv_I (by rw [List.length_map]; exact hlen))) (rv_ixL (sq_of hP5.small) ha)) fun H6 e6 => ?_
        exact ⟨_, rfl, e5.trans e6⟩
      · exact ⟨_, rfl, e5⟩
    rintro σ' H5 ⟨sd, rfl, e5⟩
    have hP5 := hP4.ex e5
    refine q_asg (ev_op (ev_int (K := K) (ev_op (ev_op (ev_op (ev_var rfl) (ev_op ev_c (pix4 rfl hP5.obj rfl) (rv_I (.inl ⟨by decide, by decide⟩))) rv_I0) ev_c rv_I0) ev_c (rv_I (.inr ⟨by decide, by decide⟩)))) ev_c (rv_I (by show (0 : Int) < 2147483647; decide))) fun H6 e6 => ?_
    have bm : ∀ x : Int, 0 ≤ x % 2147483647 ∧ x % 2147483647 < 2147483647 := fun x => ⟨Int.emod_nonneg _ (by decide), Int.emod_lt_of_pos _ (by decide)⟩
    generalize hn1 : (sd + 7919 * (cnt + 1) + 1) * 48271 % 2147483647 = n1
    have b1 : 0 ≤ n1 ∧ n1 < 2147483647 := hn1 ▸ bm _
    refine q_asg (ev_op (ev_int (K := K) (ev_op (ev_var rfl) (ev_op (ev_op (ev_var rfl) ev_c (rv_I ⟨by decide, by decide⟩)) ev_c rv_I0) (rv_I (.inl ⟨by omega, by omega⟩)))) ev_c (rv_I (by show (0 : Int) < 2147483647; decide))) fun H7 e7 => ?_
    generalize hn2 : n1 * (n1 / 1009 + 69621) % 2147483647 = n2
    have b2 : 0 ≤ n2 ∧ n2 < 2147483647 := hn2 ▸ bm _
    refine q_asg (ev_op (ev_int (K := K) (ev_op (ev_var rfl) (ev_op (ev_op (ev_var rfl) ev_c (rv_I ⟨by decide, by decide⟩)) ev_c rv_I0) (rv_I (.inl ⟨by omega, by omega⟩)))) ev_c (rv_I (by show (0 : Int) < 2147483399; decide))) fun H8 e8 => ?_
    refine s_ret (ev_op (ev_int (K := K) (ev_op (ev_var rfl) ev_c (rv_I ⟨by decide, by decide⟩))) (ev_var rfl) (rv_I hm)) fun H9 e9 => k _ _ (Int.emod_nonneg _ (by omega)) (Int.emod_lt_of_pos _ hm) ?_ ?_
    · exact s4.trans (SmB.of (e5.trans (e6.trans (e7.trans (e8.trans e9)))))
    · exact PoolAt.ex ⟨g, s, gs, ss, cur, cnt + 1, hP4⟩ (e5.trans (e6.trans (e7.trans (e8.trans e9))))

abbrev s__law_pick : Stmt := top 42
abbrev N__law_pick : List Str := ["_law_pool_here", "_law_items"]
theorem sc__law_pick : FnScope N__law_pick ["_law_pool_here", "_law_items"] (defScope s__law_pick) := ⟨rfl, rfl, rfl, by decide +kernel, rfl, by decide +kernel, by decide +kernel⟩
def spPick (K : PySem.W.Frag) : Sp := fun vs H Q _ => ∃ (M : Addr → Prop) (p l : Addr) (xs : List V), vs = [.ref p, .ref l] ∧ Live M H ∧ PoolAt M H p ∧ SqL K H l xs ∧ l ≠ p ∧ 0 < xs.length ∧ xs.length ≤ 1000000 ∧ ∀ v H', v ∈ xs → SmB p H H' → PoolAt M H' p → Q v H'
theorem ok_pick (T : Txt K mg) (D__law_draw : Df P w K mg base 1 "_law_draw" ["_law_pool_here", "_law_many"] spDraw) {f : Addr} {fd : FuncData} (F : Fun K "_law_pick" "_law_pick" s__law_pick f fd) :
    FnOk P w K mg base CX0 2 f fd ["_law_pool_here", "_law_items"] (spPick K) := by
  refine F.ok sc__law_pick (fun vs H Q E h => ?_) (fun cdv A outer s H vs Q E hr h => ?_)
  · obtain ⟨M, p, l, xs, rfl, _⟩ := h
    rfl
  obtain ⟨M, p, l, xs, rfl, hM, hP, hS, hne, h0, h1, k⟩ := h
  refine ⟨_, (pss_one (ps_ret (pe_ix ix_list (pv 1) (pe_call D__law_draw.G (hr.mono (by omega)) rfl D__law_draw.m D__law_draw.kp D__law_draw.b .nil pass0 (pa_cons (pv 0) (pa_cons (pe_callB call_len_seq (by rfl) T.b_len (by decide +kernel) (pa_cons (pv 1) pa_nil)) pa_nil))) (fun _ _ => rfl)))), ?_⟩
  refine ⟨_, rfl, _, rfl, _, rfl, l, xs, rfl, .inl hS, M, p, _, rfl, hM, hP, by omega, lgs (lt40 (by omega)), fun d H' d0 d1 hs hP' => ?_⟩
  have hd : d.toNat < xs.length := by omega
  exact ⟨l, xs, d, xs[d.toNat], rfl, rfl, hs.l hne hS, at_of (j := d.toNat) (by omega) (List.getElem?_eq_getElem hd), k _ _ (List.getElem_mem hd) hs hP'⟩

abbrev s__law_name : Stmt := top 43
abbrev N__law_name : List Str := ["_law_pool_here", "_law_taken", "_law_letters", "_law_size", "_law_word", "_law_k"]
theorem sc__law_name : FnScope N__law_name ["_law_pool_here", "_law_taken"] (defScope s__law_name) := ⟨rfl, rfl, rfl, by decide +kernel, rfl, by decide +kernel, by decide +kernel⟩
def spName (K : PySem.W.Frag) : Sp := fun vs H Q _ => ∃ (M : Addr → Prop) (p t : Addr) (ts : List Str), vs = [.ref p, .ref t] ∧ Live M H ∧ PoolAt M H p ∧ SqL K H t (ts.map V.str) ∧ t ≠ p ∧ ts.length ≤ 25 ∧ ∀ z H', IsName z → SmB p H H' → PoolAt M H' p → Q (.str z) H'
theorem ok_name (T : Txt K mg) (D__law_draw : Df P w K mg base 1 "_law_draw" ["_law_pool_here", "_law_many"] spDraw) {f : Addr} {fd : FuncData} (F : Fun K "_law_name" "_law_name" s__law_name f fd) :
    FnOk P w K mg base CX0 2 f fd ["_law_pool_here", "_law_taken"] (spName K) := by
  refine F.ok sc__law_name (fun vs H Q E h => ?_) (fun cdv A outer s H vs Q E hr h => ?_)
  · obtain ⟨M, p, l, xs, rfl, _⟩ := h
    rfl
  obtain ⟨M, p, t, ts, rfl, hM, hP, hS, hne, h25, k⟩ := h
  refine ⟨_, (pss_cons (ps_set (i := 2) sc__law_name.nd rfl (Or.inl rfl) pe_str)
  (pss_cons (ps_set (i := 3) sc__law_name.nd rfl (Or.inl rfl) (pe_op op_add pe_int (pe_call D__law_draw.G (hr.mono (by omega)) rfl D__law_draw.m D__law_draw.kp D__law_draw.b .nil pass0 (pa_cons (pv 0) (pa_cons pe_int pa_nil)))))
  (pss_cons (ps_set (i := 4) sc__law_name.nd rfl (Or.inl rfl) (pe_ix ix_str (pv 2) (pe_call D__law_draw.G (hr.mono (by omega)) rfl D__law_draw.m D__law_draw.kp D__law_draw.b .nil pass0 (pa_cons (pv 0) (pa_cons (pe_op op_sub pe_int (pe_callTy call_int1 (by rfl) T.b_int (by decide +kernel) (pa_cons (pe_cmpR op_eq (pv 3) pe_int (nomark _)) pa_nil))) pa_nil))) (fun _ _ => rfl)))
  (pss_cons (ps_for PassesOwn.never rfl (pi_range1 (by rfl) T.b_range (pa_cons (pe_op op_sub (pv 3) pe_int) pa_nil)) (pg_name (i := 5) sc__law_name.nd rfl (Or.inl rfl))
  (pss_one (ps_set (i := 4) sc__law_name.nd rfl (Or.inl rfl) (pe_op op_add_str (pv 4) (pe_ix ix_str (pv 2) (pe_call D__law_draw.G (hr.mono (by omega)) rfl D__law_draw.m D__law_draw.kp D__law_draw.b .nil pass0 (pa_cons (pv 0) (pa_cons pe_int pa_nil))) (fun _ _ => rfl))))))
  (pss_cons (ps_if (PW.pt (pw_or (pt_cmpR op_in_seq (pv 4) (pv 1) (by rfl)) (pw_or1 (pt_cmpR op_eq (pv 4) pe_str (nomark _))))) (pss_one (ps_ret (pe_op op_add_str pe_str (pe_ix ix_str (pv 2) (pe_callB call_len_seq (by rfl) T.b_len (by decide +kernel) (pa_cons (pv 1) pa_nil)) (fun _ _ => rfl))))) pss_nil)
  (pss_one (ps_ret (pv 4)))))))), ?_⟩
  have lv : ∀ {H' : Hp}, SmB p H H' → PoolAt M H' p → Live M H' := fun s P => hM.smb s (by
    obtain ⟨o, ho⟩ := P.some
    rw [ho]
    exact fun q => nomatch q)
  -- the size
  refine ⟨_, rfl, M, p, 8, rfl, hM, hP, by decide, lgs (by decide), fun d H1 d0 d1 s1 P1 => ⟨1, d, rfl, rfl, ?_⟩⟩
  -- the first letter
  have hm : ∀ b : Bool, 0 < 26 - (if b = true then (1 : Int) else 0) ∧ 26 - (if b = true then (1 : Int) else 0) ≤ 26 := fun b => by cases b <;> decide
  refine ⟨_, rfl, _, rfl, _, rfl, rfl, .inr ⟨_, rfl, _, _, rfl, rfl, M, p, _, rfl, lv s1 P1, P1, (hm _).1, lgs (lt40 (by have h := hm (decide (V.int (1 + d) = V.int 8)); omega)), fun e H2 e0 e1 s2 P2 => ?_⟩⟩
  have he26 : e < 26 := by
    have h := hm (decide (V.int (1 + d) = V.int 8))
    omega
  obtain ⟨c, hc, c0, c1⟩ := az_atI e0 he26
  refine ⟨_, _, c, rfl, rfl, az_len, hc, ?_⟩
  -- the loop
  refine ⟨_, rfl, _, _, rfl, rfl, 1 + d - 1, rfl, by omega, by omega, for_range (lo := 0) (n := (1 + d - 1).toNat) (fun i σ' H' => ∃ (z : Str) (x : Option V), σ' = [some (.ref p), some (.ref t), some (.str AZ), some (.int (1 + d)), some (.str z), x] ∧ z.length = 1 + i ∧ (∀ c ∈ z.cps.toList, 97 ≤ c ∧ c ≤ 122) ∧ SmB p H H' ∧ PoolAt M H' p)
    ⟨_, _, rfl, rfl, fun d hd => by
      have e' : d = c := by simpa using hd
      rw [e']
      exact ⟨c0, c1⟩, s1.trans s2, P2⟩ ?_ ?_⟩
  · rintro i σ' H' hi ⟨z, x, rfl, hz, haz, s3, P3⟩
    refine ⟨_, rfl, _, rfl, _, rfl, M, p, 26, rfl, lv s3 P3, P3, by decide, lgs (by decide), fun e H4 e0 e1 s4 P4 => ?_⟩
    obtain ⟨c, hc, c0, c1⟩ := az_atI e0 e1
    refine ⟨_, _, c, rfl, rfl, az_len, hc, _, _, rfl, rfl, ?_, ?_⟩
    · rw [hz, one_len]
      exact Nat.le_trans (by omega : 1 + i + 1 ≤ 1000) (by decide)
    · refine ⟨_, _, rfl, ?_, name_add haz ⟨c0, c1⟩, s3.trans s4, P4⟩
      rw [strLen_append, hz, one_len]
      omega
  · rintro σ' H' ⟨z, x, rfl, hz, haz, s3, P3⟩
    have hS' : SqL K H' t (ts.map V.str) := s3.l hne hS
    have hN : IsName z := ⟨by omega, by omega, haz⟩
    refine ⟨_, rfl, _, rfl, t, _, rfl, .inl hS', rfl, Cm.flat_strs ts, ?_⟩
    refine ⟨_, rfl, ?_⟩
    have last : tRet (tVar 4) { nx := fun _ H' => Q .non H', rt := Q } [some (.ref p), some (.ref t), some (.str AZ), some (.int (1 + d)), some (.str z), x] H' := ⟨_, rfl, k z H' hN s3 P3⟩
    have other : tRet (tOp (fun x y H Q => ∃ i j, x = .str i ∧ y = .str j ∧ i.length + j.length ≤ sizeLine ∧ Q (.str (i ++ j)) H) (tC (.str "zzzzzzz")) (tOp rIxS (tVar 2) (tCB (fun xs H Q => ∃ p ys, xs = [V.ref p] ∧ (SqL K H p ys ∨ SqT K H p ys) ∧ Q (.int ys.length) H) (tCons (tVar 1) tNil)))) { nx := fun _ H' => Q .non H', rt := Q } [some (.ref p), some (.ref t), some (.str AZ), some (.int (1 + d)), some (.str z), x] H' := by
      obtain ⟨c, hc, c0, c1⟩ := az_atI (i := ((ts.map V.str).length : Int)) (by omega) (by rw [List.length_map]; omega)
      refine ⟨_, rfl, _, rfl, t, _, rfl, .inl hS', _, _, c, rfl, rfl, az_len, hc, _, _, rfl, rfl, ?_, k _ H' ⟨?_, ?_, name_add (z := "zzzzzzz") (by decide +kernel) ⟨c0, c1⟩⟩ s3 P3⟩
      · show ("zzzzzzz" : Str).length + 1 ≤ sizeLine
        decide +kernel
      · rw [strLen_append]
        show 1 ≤ ("zzzzzzz" : Str).length + 1
        decide +kernel
      · rw [strLen_append]
        show ("zzzzzzz" : Str).length + 1 ≤ 8
        decide +kernel
    refine ite2 (fun _ => other) (fun _ => ?_)
    refine ⟨_, rfl, rfl, _, rfl, ?_⟩
    exact ite2 (fun _ => other) (fun _ => last)

abbrev s__law_same : Stmt := top 45
abbrev N__law_same : List Str := ["_law_a", "_law_b", "_law_x", "_law_y"]
theorem sc__law_same : FnScope N__law_same ["_law_a", "_law_b"] (defScope s__law_same) := ⟨rfl, rfl, rfl, by decide +kernel, rfl, by decide +kernel, by decide +kernel⟩
def spS : Nat → Sp
  | 0 => fun _ _ _ _ => False
  | n + 1 => fun vs H Q _ => ∃ (x y : V) (d : PyData), vs = [x, y] ∧ Rp M0 H n x d ∧ Rp M0 H n y d ∧ ∀ H', Ex H H' → Q (.bl true) H'
theorem ok_same0 {f : Addr} {fd : FuncData} : FnOk P w K mg base CX0 0 f fd ["_law_a", "_law_b"] (spS 0) :=
  ⟨fun vs H Q E h => (show False from h).elim, fun A outer s H args us vs Q E _ _ _ _ h => (show False from h).elim⟩
theorem ok_same1 (T : Txt K mg) {n : Nat} {f : Addr} {fd : FuncData} (F : Fun K "_law_same" "_law_same" s__law_same f fd) (D__law_same : Df P w K mg base n "_law_same" ["_law_a", "_law_b"] (spS n)) :
    FnOk P w K mg base CX0 (n + 1) f fd ["_law_a", "_law_b"] (spS (n + 1)) := by
  refine F.ok sc__law_same (fun vs H Q E h => ?_) (fun cdv A outer s H vs Q E hr h => ?_)
  · obtain ⟨x, y, d, rfl, _⟩ := h
    rfl
  obtain ⟨x, y, d, rfl, hx, hy, k⟩ := h
  refine ⟨_, (pss_cons (ps_if (pt_val (pe_callB call_isi (by rfl) T.b_isinstance (by decide +kernel) (pa_cons (pv 1) (pa_cons (pe_bltn (v := .ty "tuple") (by rfl) T.b_tuple (by decide +kernel) rfl) pa_nil)))) (pss_cons (ps_if (PW.pt (pw_or (pt_not (pt_val (pe_callB call_isi (by rfl) T.b_isinstance (by decide +kernel) (pa_cons (pv 0) (pa_cons (pe_bltn (v := .ty "tuple") (by rfl) T.b_tuple (by decide +kernel) rfl) pa_nil))))) (pw_or1 (pt_cmpR op_ne (pe_callB call_len_seq (by rfl) T.b_len (by decide +kernel) (pa_cons (pv 0) pa_nil)) (pe_callB call_len_seq (by rfl) T.b_len (by decide +kernel) (pa_cons (pv 1) pa_nil)) (nomark _))))) (pss_one (ps_ret pe_bl)) pss_nil)
  (pss_one (ps_ret (pe_callB (cr_all rfl) (by rfl) T.b_all (by decide +kernel) (pa_cons (pe_lc (own := [("_law_x", 2), ("_law_y", 3)]) (g := (gTup K 2 (gCons (gName 2) (gCons (gName 3) gNil)))) (tt := tYes) rfl sc__law_same.nd (RZ.pi_zipA (by rfl) T.b_zip (pa_cons (pv 0) (pa_cons (pv 1) pa_nil))) (blkOk_by (own := [("_law_x", 2), ("_law_y", 3)]) (N := N__law_same) (sc := defScope s__law_same) (by decide +kernel)) (fun _ _ _ _ _ => (pg_tup rfl (pgs_cons (pg_name (i := 2) sc__law_same.nd rfl (Or.inl rfl)) (pgs_cons (pg_name (i := 3) sc__law_same.nd rfl (Or.inl rfl)) pgs_nil)))) (fun _ _ _ _ _ => pts_nil) (fun _ _ _ _ _ => (pe_call D__law_same.G (hr.mono (by omega)) rfl D__law_same.m D__law_same.kp D__law_same.b .nil pass0 (pa_cons (pv 2) (pa_cons (pv 3) pa_nil))))) pa_nil))))) pss_nil)
  (pss_cons (ps_if (pt_val (pe_callB call_isi (by rfl) T.b_isinstance (by decide +kernel) (pa_cons (pv 1) (pa_cons (pe_bltn (v := .ty "list") (by rfl) T.b_list (by decide +kernel) rfl) pa_nil)))) (pss_cons (ps_if (PW.pt (pw_or (pt_not (pt_val (pe_callB call_isi (by rfl) T.b_isinstance (by decide +kernel) (pa_cons (pv 0) (pa_cons (pe_bltn (v := .ty "list") (by rfl) T.b_list (by decide +kernel) rfl) pa_nil))))) (pw_or1 (pt_cmpR op_ne (pe_callB call_len_seq (by rfl) T.b_len (by decide +kernel) (pa_cons (pv 0) pa_nil)) (pe_callB call_len_seq (by rfl) T.b_len (by decide +kernel) (pa_cons (pv 1) pa_nil)) (nomark _))))) (pss_one (ps_ret pe_bl)) pss_nil)
  (pss_one (ps_ret (pe_callB (cr_all rfl) (by rfl) T.b_all (by decide +kernel) (pa_cons (pe_lc (own := [("_law_x", 2), ("_law_y", 3)]) (g := (gTup K 2 (gCons (gName 2) (gCons (gName 3) gNil)))) (tt := tYes) rfl sc__law_same.nd (RZ.pi_zipA (by rfl) T.b_zip (pa_cons (pv 0) (pa_cons (pv 1) pa_nil))) (blkOk_by (own := [("_law_x", 2), ("_law_y", 3)]) (N := N__law_same) (sc := defScope s__law_same) (by decide +kernel)) (fun _ _ _ _ _ => (pg_tup rfl (pgs_cons (pg_name (i := 2) sc__law_same.nd rfl (Or.inl rfl)) (pgs_cons (pg_name (i := 3) sc__law_same.nd rfl (Or.inl rfl)) pgs_nil)))) (fun _ _ _ _ _ => pts_nil) (fun _ _ _ _ _ => (pe_call D__law_same.G (hr.mono (by omega)) rfl D__law_same.m D__law_same.kp D__law_same.b .nil pass0 (pa_cons (pv 2) (pa_cons (pv 3) pa_nil))))) pa_nil))))) pss_nil)
  (pss_cons (ps_if (pt_cmpR op_isN (pv 1) pe_non (nomark _)) (pss_one (ps_ret (pe_cmpR op_isN (pv 0) pe_non (nomark _)))) pss_nil)
  (pss_cons (ps_if (pt_val (pe_callB call_isi (by rfl) T.b_isinstance (by decide +kernel) (pa_cons (pv 1) (pa_cons (pe_bltn (v := .ty "bool") (by rfl) T.b_bool (by decide +kernel) rfl) pa_nil)))) (pss_one (ps_ret (pe_and (pe_callB call_isi (by rfl) T.b_isinstance (by decide +kernel) (pa_cons (pv 0) (pa_cons (pe_bltn (v := .ty "bool") (by rfl) T.b_bool (by decide +kernel) rfl) pa_nil))) (pe_one (pe_cmpR op_eq (pv 0) (pv 1) (nomark _)))))) pss_nil)
  (pss_cons (ps_if (pt_val (pe_callB call_isi (by rfl) T.b_isinstance (by decide +kernel) (pa_cons (pv 1) (pa_cons (pe_bltn (v := .ty "int") (by rfl) T.b_int (by decide +kernel) rfl) pa_nil)))) (pss_one (ps_ret (pe_and (pe_callB call_isi (by rfl) T.b_isinstance (by decide +kernel) (pa_cons (pv 0) (pa_cons (pe_bltn (v := .ty "int") (by rfl) T.b_int (by decide +kernel) rfl) pa_nil))) (pe_and (pe_not (pe_callB call_isi (by rfl) T.b_isinstance (by decide +kernel) (pa_cons (pv 0) (pa_cons (pe_bltn (v := .ty "bool") (by rfl) T.b_bool (by decide +kernel) rfl) pa_nil)))) (pe_one (pe_cmpR op_eq (pv 0) (pv 1) (nomark _))))))) pss_nil)
  (pss_one (ps_ret (pe_and (pe_callB call_isi (by rfl) T.b_isinstance (by decide +kernel) (pa_cons (pv 0) (pa_cons (pe_bltn (v := .ty "str") (by rfl) T.b_str (by decide +kernel) rfl) pa_nil))) (pe_one (pe_cmpR op_eq (pv 0) (pv 1) (nomark _))))))))))), ?_⟩
  -- a tuple
  refine q_when (et_B (ev_isi (ev_var rfl) hy (.inl rfl))) (fun hb H1 e1 => ?_) (fun hb H1 e1 => ?_)
  · cases d with
    | tuple ds =>
      cases n with
      | zero => cases x <;> exact hx.elim
      | succ n =>
      cases x with
      | ref a =>
        cases y with
        | ref b =>
          have hx1 := hx.ex e1
          have hy1 := hy.ex e1
          obtain ⟨xs, ha, _, pa, _⟩ := id hx1
          obtain ⟨ys, hb', _, pb, _⟩ := id hy1
          have hl : xs.length = ys.length := (pair_len pa).trans (pair_len pb).symm
          refine q_when (b := false) (et_is (et_or (et_not (et_B (ev_isi (ev_var rfl) hx1 (.inl rfl)))) fun _ => et_test (ev_op (ev_lenT (ev_var rfl) (st_of ha)) (ev_lenT (ev_var rfl) (st_of hb')) (rv_ne rfl))) (by rw [hl]; simp [isA])) (fun z => Bool.noConfusion z) (fun _ H2 e2 => ?_)
          refine ⟨_, rfl, _, rfl, a, b, xs, ys, rfl, .inr ⟨st_of (e2 _ _ ha), st_of (e2 _ _ hb'), fun D hD => ?_⟩⟩
          refine lc_it (walk_zipT (K := K) (a := a) (b := b) (xs := xs) (ys := ys) (n := xs.length) (by omega)) (fun i H3 => Ex H2 H3 ∧ H3 D = some (.lst ((List.replicate i true).map V.bl))) ⟨Ex.new hD, upd_same⟩ (fun i H3 _ z => ⟨st_of (z.1 _ _ (e2 _ _ ha)), st_of (z.1 _ _ (e2 _ _ hb'))⟩) ?_ ?_
          · rintro i v H3 H4 hi ⟨e3, hD3⟩ ⟨T, u1, u2, rfl, hT, rfl, h1, h2⟩
            obtain ⟨d1, g1, r1⟩ := pair_at pa h1
            obtain ⟨d2, g2, r2⟩ := pair_at pb h2
            rw [g1] at g2
            cases g2
            have eT : Ex H3 (upd H3 T (.tup [u1, u2])) := Ex.new hT
            refine ⟨T, _, rfl, st_of upd_same, rfl, _, _, rfl, _, _, rfl, rfl, rfl, ?_⟩
            refine yes_if ?_
            have eA : Ex H1 (upd H3 T (.tup [u1, u2])) := e2.trans (e3.trans eT)
            refine ⟨u1, rfl, u2, rfl, u1, u2, d1, rfl, r1.ex eA, r2.ex eA, fun H5 e5 => ?_⟩
            refine ⟨_, e5 _ _ (eT _ _ hD3), ?_, (e3.trans (eT.trans e5)).mut hD, ?_⟩
            · rw [List.length_map, List.length_replicate]
              have := hx1.choose_spec.2.1
              exact small1000 (by
                obtain ⟨xs', ha', hl', _⟩ := hx1
                rw [ha] at ha'
                cases ha'
                omega)
            · rw [upd_same, List.replicate_succ', List.map_append]
              rfl
          · rintro H3 ⟨e3, hD3⟩
            refine ⟨D, _, rfl, sq_of hD3, ?_⟩
            rw [all_yes]
            exact k _ (e1.trans (e2.trans e3))
        | _ => exact hy.elim
      | _ => exact hx.elim
    | _ => exact absurd hb (by simp [isA])
  -- a list
  refine q_when (et_B (ev_isi (ev_var rfl) (hy.ex e1) (.inr (.inl rfl)))) (fun hb2 H2 e2 => ?_) (fun hb2 H2 e2 => ?_)
  · cases d with
    | list ds =>
      cases n with
      | zero => cases x <;> exact hx.elim
      | succ n =>
      cases x with
      | ref a =>
        cases y with
        | ref b =>
          have hx1 := hx.ex (e1.trans e2)
          have hy1 := hy.ex (e1.trans e2)
          obtain ⟨xs, ha, hxl, pa, _⟩ := id hx1
          obtain ⟨ys, hb', _, pb, _⟩ := id hy1
          have hl : xs.length = ys.length := (pair_len pa).trans (pair_len pb).symm
          refine q_when (b := false) (et_is (et_or (et_not (et_B (ev_isi (ev_var rfl) hx1 (.inr (.inl rfl))))) fun _ => et_test (ev_op (ev_lenL (ev_var rfl) (sq_of ha)) (ev_lenL (ev_var rfl) (sq_of hb')) (rv_ne rfl))) (by rw [hl]; simp [isA])) (fun z => Bool.noConfusion z) (fun _ H3 e3 => ?_)
          refine ⟨_, rfl, _, rfl, a, b, xs, ys, rfl, .inl ⟨sq_of (e3 _ _ ha), sq_of (e3 _ _ hb'), fun D hD => ?_⟩⟩
          refine lc_it (walk_zip (K := K) (a := a) (b := b) (xs := xs) (ys := ys) (n := xs.length) (by omega)) (fun i H4 => Ex H3 H4 ∧ H4 D = some (.lst ((List.replicate i true).map V.bl))) ⟨Ex.new hD, upd_same⟩ (fun i H4 _ z => ⟨sq_of (z.1 _ _ (e3 _ _ ha)), sq_of (z.1 _ _ (e3 _ _ hb'))⟩) ?_ ?_
          · rintro i v H4 H5 hi ⟨e4, hD4⟩ ⟨T, u1, u2, rfl, hT, rfl, h1, h2⟩
            obtain ⟨d1, g1, r1⟩ := pair_at pa h1
            obtain ⟨d2, g2, r2⟩ := pair_at pb h2
            rw [g1] at g2
            cases g2
            have eT : Ex H4 (upd H4 T (.tup [u1, u2])) := Ex.new hT
            refine ⟨T, _, rfl, st_of upd_same, rfl, _, _, rfl, _, _, rfl, rfl, rfl, ?_⟩
            refine yes_if ?_
            have eA : Ex H2 (upd H4 T (.tup [u1, u2])) := e3.trans (e4.trans eT)
            refine ⟨u1, rfl, u2, rfl, u1, u2, d1, rfl, r1.ex eA, r2.ex eA, fun H6 e6 => ?_⟩
            refine ⟨_, e6 _ _ (eT _ _ hD4), ?_, (e4.trans (eT.trans e6)).mut hD, ?_⟩
            · rw [List.length_map, List.length_replicate]
              exact small1000 (by omega)
            · rw [upd_same, List.replicate_succ', List.map_append]
              rfl
          · rintro H4 ⟨e4, hD4⟩
            refine ⟨D, _, rfl, sq_of hD4, ?_⟩
            rw [all_yes]
            exact k _ ((e1.trans e2).trans (e3.trans e4))
        | _ => exact hy.elim
      | _ => exact hx.elim
    | _ => exact absurd hb2 (by simp [isA])
  -- what is no object
  have e12 := e1.trans e2
  have scalars : (d = .none ∧ x = .non ∧ y = .non) ∨ (∃ b, d = .bool b ∧ x = .bl b ∧ y = .bl b) ∨ (∃ i, d = .int i ∧ x = .int i ∧ y = .int i) ∨ ∃ i, d = .str i ∧ x = .str i ∧ y = .str i := by
    cases d with
    | tuple ds => exact absurd hb (by simp [isA])
    | list ds => exact absurd hb2 (by simp [isA])
    | none => cases n <;> cases x <;> cases y <;> first | exact .inl ⟨rfl, rfl, rfl⟩ | (exfalso; exact hx) | (exfalso; exact hy)
    | bool b => cases n <;> cases x <;> cases y <;> first | exact .inr (.inl ⟨b, rfl, congrArg V.bl hx, congrArg V.bl hy⟩) | (exfalso; exact hx) | (exfalso; exact hy)
    | int b => cases n <;> cases x <;> cases y <;> first | exact .inr (.inr (.inl ⟨b, rfl, congrArg V.int hx, congrArg V.int hy⟩)) | (exfalso; exact hx) | (exfalso; exact hy)
    | str b => cases n <;> cases x <;> cases y <;> first | exact .inr (.inr (.inr ⟨b, rfl, congrArg V.str hx, congrArg V.str hy⟩)) | (exfalso; exact hx) | (exfalso; exact hy)
    | dict kvs => cases n <;> cases x <;> (exfalso; exact hx)
  have isn : ∀ {v : V} {j : Nat} {σ2 : L2.St} {H2 : Hp}, σ2[j]? = some (some v) → Ev (tOp (fun x y H Q => y = V.non ∧ Q (.bl (decide (x = .non))) H) (tVar j) (tC .non)) σ2 H2 (.bl (decide (v = .non))) := fun h => ev_op (ev_var h) ev_c fun H3 _ Q q => ⟨rfl, q H3 (Ex.refl H3)⟩
  have hy2 := hy.ex e12
  have hx2 := hx.ex e12
  rcases scalars with ⟨rfl, rfl, rfl⟩ | ⟨b, rfl, rfl, rfl⟩ | ⟨i, rfl, rfl, rfl⟩ | ⟨i, rfl, rfl, rfl⟩
  · refine q_when (et_test (isn rfl)) (fun _ H3 e3 => ?_) (fun hb H3 e3 => absurd hb (by simp))
    exact s_ret (isn rfl) fun H4 e4 => k _ (e12.trans (e3.trans e4))
  · refine q_when (et_test (isn rfl)) (fun hb H3 e3 => absurd hb (by simp)) (fun _ H3 e3 => ?_)
    refine q_when (et_B (ev_isi (ev_var rfl) (hy2.ex e3) (.inr (.inr (.inl rfl))))) (fun _ H4 e4 => ?_) (fun hb H4 e4 => absurd hb (by simp [isA]))
    exact s_ret (v := .bl true) (ev_is (ev_andV (ev_isi (ev_var rfl) (hx2.ex (e3.trans e4)) (.inr (.inr (.inl rfl)))) fun _ => ev_op (ev_var rfl) (ev_var rfl) (rv_eq rfl)) (by simp [isA])) fun H5 e5 => k _ (e12.trans (e3.trans (e4.trans e5)))
  · refine q_when (et_test (isn rfl)) (fun hb H3 e3 => absurd hb (by simp)) (fun _ H3 e3 => ?_)
    refine q_when (et_B (ev_isi (ev_var rfl) (hy2.ex e3) (.inr (.inr (.inl rfl))))) (fun hb H4 e4 => absurd hb (by simp [isA])) (fun _ H4 e4 => ?_)
    refine q_when (et_B (ev_isi (ev_var rfl) (hy2.ex (e3.trans e4)) (.inr (.inr (.inr (.inl rfl)))))) (fun _ H5 e5 => ?_) (fun hb H5 e5 => absurd hb (by simp [isA]))
    have e35 := e3.trans (e4.trans e5)
    exact s_ret (v := .bl true) (ev_is (ev_andV (ev_isi (ev_var rfl) (hx2.ex e35) (.inr (.inr (.inr (.inl rfl))))) fun _ => ev_andV (ev_notV (ev_isi (ev_var rfl) (hx2.ex e35) (.inr (.inr (.inl rfl))))) fun _ => ev_op (ev_var rfl) (ev_var rfl) (rv_eq rfl)) (by simp [isA])) fun H6 e6 => k _ (e12.trans (e35.trans e6))
  · refine q_when (et_test (isn rfl)) (fun hb H3 e3 => absurd hb (by simp)) (fun _ H3 e3 => ?_)
    refine q_when (et_B (ev_isi (ev_var rfl) (hy2.ex e3) (.inr (.inr (.inl rfl))))) (fun hb H4 e4 => absurd hb (by simp [isA])) (fun _ H4 e4 => ?_)
    refine q_when (et_B (ev_isi (ev_var rfl) (hy2.ex (e3.trans e4)) (.inr (.inr (.inr (.inl rfl)))))) (fun hb H5 e5 => absurd hb (by simp [isA])) (fun _ H5 e5 => ?_)
    have e35 := e3.trans (e4.trans e5)
    exact s_ret (v := .bl true) (ev_is (ev_andV (ev_isi (ev_var rfl) (hx2.ex e35) (.inr (.inr (.inr (.inr (.inl rfl)))))) fun _ => ev_op (ev_var rfl) (ev_var rfl) (rv_eq rfl)) (by simp [isA])) fun H6 e6 => k _ (e12.trans (e35.trans e6))

end
end My
set_option Elab.async false
set_option linter.all false
set_option maxRecDepth 100000
set_option maxHeartbeats 4000000
namespace My
open PySem PySem.Spec PyProof.Rows L2 Evl Cm
section
variable {P : Program} {w : World} {K : PySem.W.Frag} {mg : Str → Option Value} {base : Heap}
/-- pick from a list of data -/
theorem pick_ok {M : Addr → Prop} {σ : L2.St} {H : Hp} {p : Addr} {te : TE} {ds : List PyData} (hM : Live M H) (hMp : M p) (hP : PoolAt M H p) (hs : σ[0]? = some (some (.ref p))) (h : EvLP te σ H (ds.map (DaM M 1))) (h0 : 0 < ds.length) (h1 : ds.length ≤ 1000)
    {Q : VK} (q : ∀ v d H', d ∈ ds → SmB p H H' → PoolAt M H' p → Live M H' → Rp M H' 1 v d → Q v H') : tCall (spPick K) [] E0 (tCons (tVar 0) (tCons te tNil)) σ H Q :=
  ⟨_, hs, h H (Ex.refl H) _ fun l xs H1 hl e1 l1 a1 => by
    have pa := pairs_daM a1
    have hlen := pair_len pa
    have hlp : l ≠ p := fun z => by
      obtain ⟨o, ho⟩ := hP.some
      rw [z, ho] at hl
      cases hl
    refine ⟨M, p, l, xs, rfl, hM.ex e1, hP.ex e1, sq_of l1, hlp, by omega, by omega, fun v H' hv s P => ?_⟩
    obtain ⟨d, hd, r⟩ := pair_all (P := fun _ => True) pa (fun _ _ => trivial) hv
    exact q v d H' hd ((SmB.of e1).trans s) P ((hM.ex e1).smb s (by
      obtain ⟨o, ho⟩ := P.some
      rw [ho]
      exact fun z => nomatch z)) (r.exM (fun _ z => z) (exM_of s hMp))⟩
def isT (lo hi : Int) : PyData → Bool
  | .tuple ds => decide (lo ≤ (ds.length : Int)) && decide ((ds.length : Int) ≤ hi)
  | _ => false
abbrev s_is_tuple : Stmt := top 6
abbrev N_is_tuple : List Str := ["value", "fewest", "most"]
theorem sc_is_tuple : FnScope N_is_tuple ["value", "fewest", "most"] (defScope s_is_tuple) := ⟨rfl, rfl, rfl, by decide +kernel, rfl, by decide +kernel, by decide +kernel⟩
def spIsT : Sp := fun vs H Q _ => ∃ (x : V) (n : Nat) (d : PyData) (lo hi : Int), vs = [x, .int lo, .int hi] ∧ Rp M0 H n x d ∧ ∀ H', Ex H H' → Q (.bl (isT lo hi d)) H'
theorem ok_is_tuple (T : Txt K mg) {f : Addr} {fd : FuncData} (F : Fun K "is_tuple" "is_tuple" s_is_tuple f fd) : FnOk P w K mg base CX0 1 f fd ["value", "fewest", "most"] spIsT := by
  refine F.ok sc_is_tuple (fun vs H Q E h => ?_) (fun cdv A outer s H vs Q E hr h => ?_)
  · obtain ⟨x, n, d, lo, hi, rfl, _⟩ := h
    rfl
  obtain ⟨x, n, d, lo, hi, rfl, hx, k⟩ := h
  refine ⟨_, (pss_one (ps_ret (pe_and (pe_callB call_isi (by rfl) T.b_isinstance (by decide +kernel) (pa_cons (pv 0) (pa_cons (pe_bltn (v := .ty "tuple") (by rfl) T.b_tuple (by decide +kernel) rfl) pa_nil))) (pe_one (pe_chain op_le op_le (pv 1) (pe_callB call_len_seq (by rfl) T.b_len (by decide +kernel) (pa_cons (pv 0) pa_nil)) (pv 2)))))), ?_⟩
  cases d with
  | tuple ds => exact s_ret (v := .bl (isT lo hi (.tuple ds))) (ev_is (ev_andV (ev_isi (ev_var rfl) hx (.inl rfl)) fun _ => ev_chain (k1 := decide (lo ≤ (ds.length : Int))) (k2 := decide ((ds.length : Int) ≤ hi)) (ev_var rfl) (ev_lenD (ev_var rfl) hx) (ev_var rfl) rv_I0 fun _ => rv_I0) (by simp [isA, isT])) fun H1 e1 => k H1 e1
  | _ => exact s_ret (v := .bl false) (ev_is (ev_andV (b := false) (ev_isi (ev_var rfl) hx (.inl rfl)) fun z => absurd z (by simp [isA])) (by simp [isA])) fun H1 e1 => k H1 e1
abbrev s_is_name : Stmt := top 5
abbrev N_is_name : List Str := ["value", "letter"]
theorem sc_is_name : FnScope N_is_name ["value"] (defScope s_is_name) := ⟨rfl, rfl, rfl, by decide +kernel, rfl, by decide +kernel, by decide +kernel⟩
def spIsN : Sp := fun vs H Q _ => ∃ (x : V) (n : Nat) (d : PyData), vs = [x] ∧ Rp M0 H n x d ∧ (∀ z, d = .str z → z.length ≤ 1000) ∧ ∀ H', Ex H H' → Q (.bl (isN d)) H'
theorem ok_is_name (T : Txt K mg) {tok : Tok} (g_LETTERS : mg "LETTERS" = some (.str AZ tok)) {f : Addr} {fd : FuncData} (F : Fun K "is_name" "is_name" s_is_name f fd) : FnOk P w K mg base CX0 1 f fd ["value"] spIsN := by
  refine F.ok sc_is_name (fun vs H Q E h => ?_) (fun cdv A outer s H vs Q E hr h => ?_)
  · obtain ⟨x, n, d, rfl, _⟩ := h
    rfl
  obtain ⟨x, n, d, rfl, hx, hz, k⟩ := h
  refine ⟨_, (pss_cons (ps_if (PW.pt (pw_or (pt_not (pt_val (pe_callB call_isi (by rfl) T.b_isinstance (by decide +kernel) (pa_cons (pv 0) (pa_cons (pe_bltn (v := .ty "str") (by rfl) T.b_str (by decide +kernel) rfl) pa_nil))))) (pw_or1 (pt_not (pt_chain op_le op_le pe_int (pe_callB call_len_str (by rfl) T.b_len (by decide +kernel) (pa_cons (pv 0) pa_nil)) pe_int))))) (pss_one (ps_ret pe_bl)) pss_nil)
  (pss_one (ps_ret (pe_callB (cr_all rfl) (by rfl) T.b_all (by decide +kernel) (pa_cons (pe_lc (own := [("letter", 1)]) (g := (gName 1)) (tt := tYes) rfl sc_is_name.nd (pi_str (pv 0)) (blkOk_by (own := [("letter", 1)]) (N := N_is_name) (sc := defScope s_is_name) (by decide +kernel)) (fun _ _ _ _ _ => (pg_name (i := 1) sc_is_name.nd rfl (Or.inl rfl))) (fun _ _ _ _ _ => pts_nil) (fun _ _ _ _ _ => (pe_cmpR op_in_sign (pv 1) (pe_glob (v := .str AZ) (by rfl) g_LETTERS ⟨_, rfl⟩) (by rfl)))) pa_nil))))), ?_⟩
  cases d with
  | str z =>
    obtain rfl := hx.strv
    have hz := hz z rfl
    refine q_when (et_or (et_not (et_B (ev_isi (ev_var rfl) hx (.inr (.inr (.inr (.inr (.inl rfl)))))))) fun _ => et_not (et_test (ev_chain (k1 := decide (1 ≤ (z.length : Int))) (k2 := decide ((z.length : Int) ≤ 8)) ev_c (ev_lenS (ev_var rfl) hz) ev_c rv_I0 fun _ => rv_I0))) (fun hb H1 e1 => ?_) (fun hb H1 e1 => ?_)
    · have e : isN (.str z) = false := by
        have hb' : (decide (1 ≤ (z.length : Int)) && decide ((z.length : Int) ≤ 8)) = false := notT hb
        show (decide (1 ≤ (z.length : Int)) && decide ((z.length : Int) ≤ 8) && _) = false
        rw [hb']
        rfl
      exact s_ret (ev_c (v := .bl false)) fun H2 e2 => by
        rw [← e]
        exact k H2 (e1.trans e2)
    · have e : isN (.str z) = z.cps.toList.all fun c => decide (c ∈ AZ.cps.toList) := by
        have hb' : (decide (1 ≤ (z.length : Int)) && decide ((z.length : Int) ≤ 8)) = true := notF hb
        show (decide (1 ≤ (z.length : Int)) && decide ((z.length : Int) ≤ 8) && _) = _
        rw [hb']
        rfl
      refine s_ret (all_str (K := K) (fun c => decide (c ∈ AZ.cps.toList)) hz (ev_var rfl) (fun _ => rfl) fun c H2 e2 => ev_op (ev_var rfl) ev_c rv_sign) fun H2 e2 => ?_
      rw [← e]
      exact k H2 (e1.trans e2)
  | _ => exact q_when (b := true) (et_is (et_or (b := true) (et_not (et_B (ev_isi (ev_var rfl) hx (.inr (.inr (.inr (.inr (.inl rfl)))))))) fun z => absurd z (by simp [isA])) (by simp [isA])) (fun _ H1 e1 => s_ret (ev_c (v := .bl false)) fun H2 e2 => k H2 (e1.trans e2)) (fun z => Bool.noConfusion z)

abbrev s__law_is_name : Stmt := top 49
abbrev N__law_is_name : List Str := ["_law_value_here", "_law_letter"]
theorem sc__law_is_name : FnScope N__law_is_name ["_law_value_here"] (defScope s__law_is_name) := ⟨rfl, rfl, rfl, by decide +kernel, rfl, by decide +kernel, by decide +kernel⟩
theorem ok_law_is_name (T : Txt K mg) {f : Addr} {fd : FuncData} (F : Fun K "_law_is_name" "_law_is_name" s__law_is_name f fd) : FnOk P w K mg base CX0 1 f fd ["_law_value_here"] spIsN := by
  refine F.ok sc__law_is_name (fun vs H Q E h => ?_) (fun cdv A outer s H vs Q E hr h => ?_)
  · obtain ⟨x, n, d, rfl, _⟩ := h
    rfl
  obtain ⟨x, n, d, rfl, hx, hz, k⟩ := h
  refine ⟨_, (pss_cons (ps_if (PW.pt (pw_or (pt_not (pt_val (pe_callB call_isi (by rfl) T.b_isinstance (by decide +kernel) (pa_cons (pv 0) (pa_cons (pe_bltn (v := .ty "str") (by rfl) T.b_str (by decide +kernel) rfl) pa_nil))))) (pw_or (pt_cmpR op_lt (pe_callB call_len_str (by rfl) T.b_len (by decide +kernel) (pa_cons (pv 0) pa_nil)) pe_int (nomark _)) (pw_or1 (pt_cmpR op_gt (pe_callB call_len_str (by rfl) T.b_len (by decide +kernel) (pa_cons (pv 0) pa_nil)) pe_int (nomark _)))))) (pss_one (ps_ret pe_bl)) pss_nil)
  (pss_one (ps_ret (pe_callB (cr_all rfl) (by rfl) T.b_all (by decide +kernel) (pa_cons (pe_lc (own := [("_law_letter", 1)]) (g := (gName 1)) (tt := tYes) rfl sc__law_is_name.nd (pi_str (pv 0)) (blkOk_by (own := [("_law_letter", 1)]) (N := N__law_is_name) (sc := defScope s__law_is_name) (by decide +kernel)) (fun _ _ _ _ _ => (pg_name (i := 1) sc__law_is_name.nd rfl (Or.inl rfl))) (fun _ _ _ _ _ => pts_nil) (fun _ _ _ _ _ => (pe_cmpR op_in_sign (pv 1) pe_str (by rfl)))) pa_nil))))), ?_⟩
  cases d with
  | str z =>
    obtain rfl := hx.strv
    have hz := hz z rfl
    refine q_when (et_or (et_not (et_B (ev_isi (ev_var rfl) hx (.inr (.inr (.inr (.inr (.inl rfl)))))))) fun _ => et_or (et_test (ev_op (ev_lenS (ev_var rfl) hz) ev_c rv_I0)) fun _ => et_test (ev_op (ev_lenS (ev_var rfl) hz) ev_c rv_I0)) (fun hb H1 e1 => ?_) (fun hb H1 e1 => ?_)
    · have e : isN (.str z) = false := by
        have hb' : (decide ((z.length : Int) < 1) || decide (8 < (z.length : Int))) = true := hb
        have hb2 : (decide (1 ≤ (z.length : Int)) && decide ((z.length : Int) ≤ 8)) = false := by
          simp only [Bool.or_eq_true, decide_eq_true_eq] at hb'
          rw [Bool.and_eq_false_iff]
          rcases hb' with h | h
          · exact .inl (decide_eq_false (by omega))
          · exact .inr (decide_eq_false (by omega))
        show (decide (1 ≤ (z.length : Int)) && decide ((z.length : Int) ≤ 8) && _) = false
        rw [hb2]
        rfl
      exact s_ret (ev_c (v := .bl false)) fun H2 e2 => by
        rw [← e]
        exact k H2 (e1.trans e2)
    · have e : isN (.str z) = z.cps.toList.all fun c => decide (c ∈ AZ.cps.toList) := by
        have hb' : (decide ((z.length : Int) < 1) || decide (8 < (z.length : Int))) = false := hb
        have hb2 : (decide (1 ≤ (z.length : Int)) && decide ((z.length : Int) ≤ 8)) = true := by
          rw [Bool.or_eq_false_iff] at hb'
          have h1 := of_decide_eq_false hb'.1
          have h2 := of_decide_eq_false hb'.2
          rw [Bool.and_eq_true_iff]
          exact ⟨decide_eq_true (by omega), decide_eq_true (by omega)⟩
        show (decide (1 ≤ (z.length : Int)) && decide ((z.length : Int) ≤ 8) && _) = _
        rw [hb2]
        rfl
      refine s_ret (all_str (K := K) (fun c => decide (c ∈ AZ.cps.toList)) hz (ev_var rfl) (fun _ => rfl) fun c H2 e2 => ev_op (ev_var rfl) ev_c rv_sign) fun H2 e2 => ?_
      rw [← e]
      exact k H2 (e1.trans e2)
  | _ => exact q_when (b := true) (et_is (et_or (b := true) (et_not (et_B (ev_isi (ev_var rfl) hx (.inr (.inr (.inr (.inr (.inl rfl)))))))) fun z => absurd z (by simp [isA])) (by simp [isA])) (fun _ H1 e1 => s_ret (ev_c (v := .bl false)) fun H2 e2 => k H2 (e1.trans e2)) (fun z => Bool.noConfusion z)
def sameS : PyData → PyData → Bool
  | .str a, .str b => a == b
  | _, _ => false
def dupAt (ds : List PyData) (i : Nat) : Bool := match ds[i]? with
  | some d => !isN d || (ds.take i).any fun z => sameS z d
  | none => false
def firstBad (ds : List PyData) : Option Nat := (List.range ds.length).find? (dupAt ds)
def wn (lo hi : Int) (d : PyData) : PyData := if isT lo hi d = true then (match d with
  | .tuple ds => (match firstBad ds with
    | some i => .tuple [.int (i : Int)]
    | none => .none)
  | _ => .tuple []) else .tuple []
/-- texts of bounded length -/
def Lens : PyData → Prop
  | .tuple ds => ∀ z, PyData.str z ∈ ds → z.length ≤ 1000
  | _ => True
theorem first_some {ds : List PyData} {i : Nat} (hi : i < ds.length) (h : ∀ j < i, dupAt ds j = false) (hd : dupAt ds i = true) : firstBad ds = some i := by
  unfold firstBad
  rw [List.find?_range_eq_some]
  exact ⟨hd, by simpa using hi, fun j hj => by rw [h j hj]; rfl⟩
theorem first_none {ds : List PyData} (h : ∀ j < ds.length, dupAt ds j = false) : firstBad ds = none := by
  unfold firstBad
  rw [List.find?_eq_none]
  intro j hj
  rw [h j (List.mem_range.mp hj)]
  exact Bool.false_ne_true
theorem ev_isT {σ : L2.St} {H : Hp} {ta tb tc : TE} {v : V} {n : Nat} {d : PyData} {lo hi : Int} (h1 : Ev ta σ H v) (h2 : Ev tb σ H (.int lo)) (h3 : Ev tc σ H (.int hi)) (r : Rp M0 H n v d) : Ev (tCall spIsT [] E0 (tCons ta (tCons tb (tCons tc tNil)))) σ H (.bl (isT lo hi d)) := fun H1 e1 Q q =>
  h1 H1 e1 _ fun H2 e2 => h2 H2 (e1.trans e2) _ fun H3 e3 => h3 H3 ((e1.trans e2).trans e3) _ fun H4 e4 => ⟨v, n, d, lo, hi, rfl, r.ex ((e1.trans e2).trans (e3.trans e4)), fun H5 e5 => q H5 ((e2.trans e3).trans (e4.trans e5))⟩
theorem ev_isN {σ : L2.St} {H : Hp} {ta : TE} {v : V} {n : Nat} {d : PyData} (h1 : Ev ta σ H v) (r : Rp M0 H n v d) (hz : ∀ z, d = .str z → z.length ≤ 1000) : Ev (tCall spIsN [] E0 (tCons ta tNil)) σ H (.bl (isN d)) := fun H1 e1 Q q =>
  h1 H1 e1 _ fun H2 e2 => ⟨v, n, d, rfl, r.ex (e1.trans e2), hz, fun H3 e3 => q H3 (e2.trans e3)⟩
theorem isN_str {d : PyData} (h : isN d = true) : ∃ z, d = .str z := by
  cases d with
  | str z => exact ⟨z, rfl⟩
  | _ => exact absurd h (by simp [isN])
theorem eq_same {M : Addr → Prop} {H : Hp} {n : Nat} {v : V} {d : PyData} {s : Str} (r : Rp M H n v d) : eqV v (.str s) = sameS d (.str s) := by
  cases n <;> cases v <;> cases d <;> first
    | (exfalso; exact r)
    | rfl
    | (cases (show _ = _ from r)
       rfl)
theorem inV_same {M : Addr → Prop} {H : Hp} {n : Nat} {xs : List V} {ds : List PyData} {s : Str} (p : Paired (Rp M H n) xs ds) : inV (.str s) xs = ds.any fun z => sameS z (.str s) := by
  induction p with
  | nil => rfl
  | cons a b ih =>
    show (_ || _) = (_ || _)
    exact congr (congrArg or (eq_same a)) ih
theorem pairs_take {α β : Type} {F : α → β → Prop} : ∀ {l : List α} {m : List β} (i : Nat), Paired F l m → Paired F (l.take i) (m.take i)
  | _, _, 0, _ => .nil
  | _, _, _ + 1, .nil => .nil
  | _, _, i + 1, .cons a b => .cons a (pairs_take i b)
theorem flat_names {M : Addr → Prop} {H : Hp} {n : Nat} {xs : List V} {ds : List PyData} (p : Paired (Rp M H n) xs ds) (h : ∀ d ∈ ds, isN d = true) : xs.all flatV = true := by
  induction p with
  | nil => rfl
  | @cons v d _ _ a b ih =>
    obtain ⟨z, rfl⟩ := isN_str (h d List.mem_cons_self)
    obtain rfl := a.strv
    rw [List.all_cons, ih fun e he => h e (List.mem_cons_of_mem _ he)]
    rfl
theorem cut_to (xs : List V) {i : Nat} (h : i < xs.length) : cutV xs none (some (i : Int)) = xs.take i := by
  unfold cutV
  rw [HT.sIx_nat, HT.sIx_none, Nat.min_eq_left (Nat.le_of_lt h), Nat.sub_zero, List.drop_zero]
theorem et_inSl {σ : L2.St} {H : Hp} {i0 i3 i4 : Nat} {a : Addr} {xs : List V} {s : Str} {i : Nat} (h0 : σ[i0]? = some (some (.ref a))) (h3 : σ[i3]? = some (some (.int (i : Int)))) (h4 : σ[i4]? = some (some (.str s))) (hx : H a = some (.tup xs)) (hi : i < xs.length) (hf : (xs.take i).all flatV = true) :
    EvT (tTest (tOp (rIn K false) (tVar i4) (tSl (rSlT K) (tVar i0) tNoPart (tPart (tVar i3))))) σ H (inV (.str s) (xs.take i)) := fun H1 e Q q => by
  refine ⟨_, h4, _, h0, _, h3, _, rfl, a, xs, rfl, st_of (e _ _ hx), fun z => ?_, fun p hp => ?_⟩
  · rw [HT.sIx_nat, Nat.min_eq_left (Nat.le_of_lt hi)] at z
    omega
  · rw [cut_to xs hi]
    exact ⟨p, _, rfl, .inr (st_of upd_same), rfl, hf, _, rfl, q _ (Ex.new hp)⟩
abbrev s_wrong_names : Stmt := top 25
abbrev N_wrong_names : List Str := ["value", "fewest", "most", "index", "item"]
theorem sc_wrong_names : FnScope N_wrong_names ["value", "fewest", "most"] (defScope s_wrong_names) := ⟨rfl, rfl, rfl, by decide +kernel, rfl, by decide +kernel, by decide +kernel⟩
def spWN : Sp := fun vs H Q _ => ∃ (x : V) (n : Nat) (d : PyData) (lo hi : Int), vs = [x, .int lo, .int hi] ∧ Rp M0 H (n + 1) x d ∧ Lens d ∧ ∀ v H', Ex H H' → Rp M0 H' 1 v (wn lo hi d) → Q v H'
theorem ok_wrong_names (T : Txt K mg) (b_enumerate : mg "enumerate" = none) (D_is_tuple : Df P w K mg base 1 "is_tuple" ["value", "fewest", "most"] spIsT) (D_is_name : Df P w K mg base 1 "is_name" ["value"] spIsN) {f : Addr} {fd : FuncData} (F : Fun K "wrong_names" "wrong_names" s_wrong_names f fd) :
    FnOk P w K mg base CX0 2 f fd ["value", "fewest", "most"] spWN := by
  refine F.ok sc_wrong_names (fun vs H Q E h => ?_) (fun cdv A outer s H vs Q E hr h => ?_)
  · obtain ⟨x, n, d, lo, hi, rfl, _⟩ := h
    rfl
  obtain ⟨x, n, d, lo, hi, rfl, hx, hl, k⟩ := h
  refine ⟨_, (pss_cons (ps_if (pt_not (pt_val (pe_call D_is_tuple.G (hr.mono (by omega)) rfl D_is_tuple.m D_is_tuple.kp D_is_tuple.b .nil pass0 (pa_cons (pv 0) (pa_cons (pv 1) (pa_cons (pv 2) pa_nil)))))) (pss_one (ps_ret (pe_tup pa_nil))) pss_nil)
  (pss_cons (ps_for PassesOwn.never rfl (pi_enumT (by rfl) b_enumerate (pa_cons (pv 0) pa_nil)) (pg_tup rfl (pgs_cons (pg_name (i := 3) sc_wrong_names.nd rfl (Or.inl rfl)) (pgs_cons (pg_name (i := 4) sc_wrong_names.nd rfl (Or.inl rfl)) pgs_nil)))
  (pss_one (ps_if (PW.pt (pw_or (pt_not (pt_val (pe_call D_is_name.G (hr.mono (by omega)) rfl D_is_name.m D_is_name.kp D_is_name.b .nil pass0 (pa_cons (pv 4) pa_nil)))) (pw_or1 (pt_cmpR op_in_seq (pv 4) (pe_slice sl_tup (pv 0) po_none (po_some (pv 3))) (by rfl))))) (pss_one (ps_ret (pe_tup (pa_cons (pv 3) pa_nil)))) pss_nil)))
  (pss_one (ps_ret pe_non)))), ?_⟩
  refine q_when (et_not (et_B (ev_isT (ev_var rfl) (ev_var rfl) (ev_var rfl) hx))) (fun hb H1 e1 => ?_) (fun hb H1 e1 => ?_)
  · have e : wn lo hi d = .tuple [] := by
      unfold wn
      rw [notT hb]
      rfl
    exact s_retP (evp_tup0 (n := 0)) fun r H2 e2 hr2 => k r H2 (e1.trans e2) (by rw [e]; exact hr2)
  have ht := notF hb
  cases d with
  | tuple ds =>
    cases x with
    | ref a =>
      obtain ⟨xs, ha, hlen, pa, _⟩ := id (hx.ex e1)
      have hxl := pair_len pa
      refine ⟨_, rfl, a, xs, rfl, st_of ha, for_it (walk_enumT (K := K) (a := a) (xs := xs)) (fun i σ' H' => ∃ x3 x4, σ' = [some (.ref a), some (.int lo), some (.int hi), x3, x4] ∧ Ex H1 H' ∧ ∀ j < i, dupAt ds j = false)
        ⟨_, _, rfl, Ex.refl _, fun j hj => absurd hj (Nat.not_lt_zero j)⟩ (fun i σ' H' _ ⟨_, _, _, e, _⟩ => st_of (e _ _ ha)) ?_ ?_⟩
      · rintro i y σ' H2 H3 hil ⟨x3, x4, rfl, e12, hall⟩ ⟨T', u1, u2, rfl, hT', rfl, h1, h2⟩
        cases h1
        obtain ⟨d2, hd2, r2⟩ := pair_at pa h2
        refine ⟨T', _, rfl, st_of upd_same, rfl, _, _, rfl, _, _, rfl, rfl, ?_⟩
        have e13 : Ex H1 (upd H2 T' (.tup [.int (i : Int), u2])) := e12.trans (Ex.new hT')
        generalize upd H2 T' (.tup [V.int (i : Int), u2]) = H3 at e13
        have names : ∀ e ∈ ds.take i, isN e = true := fun e he => by
          obtain ⟨j, hj⟩ := List.mem_iff_getElem?.mp he
          rw [List.getElem?_take] at hj
          split at hj
          · rename_i hji
            have z := hall j hji
            unfold dupAt at z
            rw [hj] at z
            exact notF (Bool.or_eq_false_iff.mp z).1
          · cases hj
        have hd2l : ∀ z, d2 = .str z → z.length ≤ 1000 := fun z hz => hl z (by rw [← hz]; exact List.mem_of_getElem? hd2)
        have hdup : dupAt ds i = (!isN d2 || (ds.take i).any fun z => sameS z d2) := by
          unfold dupAt
          rw [hd2]
        show tIfS _ _ tNext _ [some (.ref a), some (.int lo), some (.int hi), some (.int (i : Int)), some u2] H3
        refine s_when (b := dupAt ds i) ?_ (fun hb H4 e4 => ?_) (fun hb H4 e4 => ?_)
        · rw [hdup]
          by_cases hn : isN d2 = true
          · obtain ⟨s, rfl⟩ := isN_str hn
            obtain rfl := r2.strv
            refine et_or (et_not (et_B (ev_isN (ev_var rfl) (r2.ex e13) hd2l))) fun _ => ?_
            rw [← inV_same (pairs_take i pa)]
            exact et_inSl rfl rfl rfl (e13 _ _ ha) hil (flat_names (pairs_take i pa) names)
          · have hn' : isN d2 = false := by simpa using hn
            refine et_or (et_not (et_B (ev_isN (ev_var rfl) (r2.ex e13) hd2l))) fun z => absurd z (by simp [hn'])
        · have ew : wn lo hi (.tuple ds) = .tuple [.int (i : Int)] := by
            unfold wn
            rw [ht, if_pos rfl]
            dsimp only
            rw [first_some (by omega) hall hb]
          exact s_retP (evp_tup1 (n := 0) (evp_var rfl Rp.int (Da.mono _ _))) fun r H5 e5 hr5 => k r H5 (e1.trans (e13.trans (e4.trans e5))) (by rw [ew]; exact hr5)
        · exact ⟨_, _, rfl, e13.trans e4, fun j hj => by
            rcases Nat.lt_succ_iff_lt_or_eq.mp hj with z | z
            · exact hall j z
            · rw [z]
              exact hb⟩
      · rintro σ' H2 ⟨x3, x4, rfl, e12, hall⟩
        have ew : wn lo hi (.tuple ds) = .none := by
          unfold wn
          rw [ht, if_pos rfl]
          dsimp only
          rw [first_none (by rw [← hxl]; exact hall)]
        exact k .non H2 (e1.trans e12) (by rw [ew]; exact Rp.non)
    | _ => exact hx.elim
  | _ => exact absurd ht (by simp [isT])
abbrev s__law_due : Stmt := top 50
abbrev N__law_due : List Str := ["_law_value_here", "_law_least", "_law_greatest", "_law_at"]
theorem sc__law_due : FnScope N__law_due ["_law_value_here", "_law_least", "_law_greatest"] (defScope s__law_due) := ⟨rfl, rfl, rfl, by decide +kernel, rfl, by decide +kernel, by decide +kernel⟩
theorem ev_isNl {σ : L2.St} {H : Hp} {ta : TE} {v : V} {n : Nat} {d : PyData} (h1 : Ev ta σ H v) (r : Rp M0 H n v d) (hz : ∀ z, d = .str z → z.length ≤ 1000) : Ev (tCall spIsN [] E0 (tCons ta tNil)) σ H (.bl (isN d)) := ev_isN h1 r hz
theorem et_inSl2 {σ : L2.St} {H : Hp} {i0 i3 : Nat} {a : Addr} {xs : List V} {s : Str} {i : Nat} (h0 : σ[i0]? = some (some (.ref a))) (h3 : σ[i3]? = some (some (.int (0 + (i : Int))))) (hx : H a = some (.tup xs)) (hs : xs[i]? = some (.str s)) (hf : (xs.take i).all flatV = true) :
    EvT (tTest (tOp (rIn K false) (tOp (rIxT K) (tVar i0) (tVar i3)) (tSl (rSlT K) (tVar i0) tNoPart (tPart (tVar i3))))) σ H (inV (.str s) (xs.take i)) := fun H1 e Q q => by
  have hi : i < xs.length := by
    rcases List.getElem?_eq_some_iff.mp hs with ⟨z, _⟩
    exact z
  have hst : SqT K H1 a xs := st_of (e _ _ hx)
  refine ⟨_, h0, _, h3, a, xs, _, .str s, rfl, rfl, hst, at_of (j := i) (by omega) hs, _, h0, _, h3, _, rfl, a, xs, rfl, hst, fun z => ?_, fun p hp => ?_⟩
  · rw [Int.zero_add, HT.sIx_nat, Nat.min_eq_left (Nat.le_of_lt hi)] at z
    omega
  · rw [Int.zero_add, cut_to xs hi]
    exact ⟨p, _, rfl, .inr (st_of upd_same), rfl, hf, _, rfl, q _ (Ex.new hp)⟩
theorem ok_due (T : Txt K mg) (D__law_is_name : Df P w K mg base 1 "_law_is_name" ["_law_value_here"] spIsN) {f : Addr} {fd : FuncData} (F : Fun K "_law_due" "_law_due" s__law_due f fd) :
    FnOk P w K mg base CX0 2 f fd ["_law_value_here", "_law_least", "_law_greatest"] spWN := by
  refine F.ok sc__law_due (fun vs H Q E h => ?_) (fun cdv A outer s H vs Q E hr h => ?_)
  · obtain ⟨x, n, d, lo, hi, rfl, _⟩ := h
    rfl
  obtain ⟨x, n, d, lo, hi, rfl, hx, hl, k⟩ := h
  refine ⟨_, (pss_cons (ps_if (PW.pt (pw_or (pt_not (pt_val (pe_callB call_isi (by rfl) T.b_isinstance (by decide +kernel) (pa_cons (pv 0) (pa_cons (pe_bltn (v := .ty "tuple") (by rfl) T.b_tuple (by decide +kernel) rfl) pa_nil))))) (pw_or (pt_cmpR op_lt (pe_callB call_len_seq (by rfl) T.b_len (by decide +kernel) (pa_cons (pv 0) pa_nil)) (pv 1) (nomark _)) (pw_or1 (pt_cmpR op_gt (pe_callB call_len_seq (by rfl) T.b_len (by decide +kernel) (pa_cons (pv 0) pa_nil)) (pv 2) (nomark _)))))) (pss_one (ps_ret (pe_tup pa_nil))) pss_nil)
  (pss_cons (ps_for PassesOwn.never rfl (pi_range1 (by rfl) T.b_range (pa_cons (pe_callB call_len_seq (by rfl) T.b_len (by decide +kernel) (pa_cons (pv 0) pa_nil)) pa_nil)) (pg_name (i := 3) sc__law_due.nd rfl (Or.inl rfl))
  (pss_one (ps_if (PW.pt (pw_or (pt_not (pt_val (pe_call D__law_is_name.G (hr.mono (by omega)) rfl D__law_is_name.m D__law_is_name.kp D__law_is_name.b .nil pass0 (pa_cons (pe_ix ix_tup (pv 0) (pv 3) (fun _ _ => rfl)) pa_nil)))) (pw_or1 (pt_cmpR op_in_seq (pe_ix ix_tup (pv 0) (pv 3) (fun _ _ => rfl)) (pe_slice sl_tup (pv 0) po_none (po_some (pv 3))) (by rfl))))) (pss_one (ps_ret (pe_tup (pa_cons (pv 3) pa_nil)))) pss_nil)))
  (pss_one (ps_ret pe_non)))), ?_⟩
  have out : ∀ {H1 : Hp}, Ex H H1 → isT lo hi d = false → tRet (tTup tNil) { nx := fun _ H' => Q .non H', rt := Q } (L2.start N__law_due [x, .int lo, .int hi]) H1 := fun e1 hb => by
    have e : wn lo hi d = .tuple [] := by
      unfold wn
      rw [hb]
      rfl
    exact s_retP (evp_tup0 (n := 0)) fun r H2 e2 hr2 => k r H2 (e1.trans e2) (by rw [e]; exact hr2)
  cases d with
  | tuple ds =>
    cases x with
    | ref a =>
      refine q_when (et_or (et_not (et_B (ev_isi (ev_var rfl) hx (.inl rfl)))) fun _ => et_or (et_test (ev_op (ev_lenD (ev_var rfl) hx) (ev_var rfl) rv_I0)) fun _ => et_test (ev_op (ev_lenD (ev_var rfl) hx) (ev_var rfl) rv_I0)) (fun hb H1 e1 => ?_) (fun hb H1 e1 => ?_)
      · refine out e1 ?_
        have hb' : (decide ((ds.length : Int) < lo) || decide (hi < (ds.length : Int))) = true := hb
        simp only [Bool.or_eq_true, decide_eq_true_eq] at hb'
        show (_ && _) = false
        rw [Bool.and_eq_false_iff]
        rcases hb' with h | h
        · exact .inl (decide_eq_false (by omega))
        · exact .inr (decide_eq_false (by omega))
      have ht : isT lo hi (.tuple ds) = true := by
        have hb' : (decide ((ds.length : Int) < lo) || decide (hi < (ds.length : Int))) = false := hb
        rw [Bool.or_eq_false_iff] at hb'
        have h1 := of_decide_eq_false hb'.1
        have h2 := of_decide_eq_false hb'.2
        show (_ && _) = true
        rw [Bool.and_eq_true_iff]
        exact ⟨decide_eq_true (by omega), decide_eq_true (by omega)⟩
      obtain ⟨xs, ha, hlen, pa, _⟩ := id (hx.ex e1)
      have hxl := pair_len pa
      refine ⟨_, rfl, a, xs, rfl, .inr (st_of ha), _, rfl, by omega, by omega, for_range (lo := 0) (n := ((xs.length : Int)).toNat) (fun i σ' H' => ∃ x3, σ' = [some (.ref a), some (.int lo), some (.int hi), x3] ∧ Ex H1 H' ∧ ∀ j < i, dupAt ds j = false)
        ⟨_, rfl, Ex.refl _, fun j hj => absurd hj (Nat.not_lt_zero j)⟩ ?_ ?_⟩
      · rintro i σ' H2 hil ⟨x3, rfl, e12, hall⟩
        have hil : i < xs.length := by omega
        obtain ⟨u2, h2⟩ : ∃ u2, xs[i]? = some u2 := ⟨_, List.getElem?_eq_getElem hil⟩
        obtain ⟨d2, hd2, r2⟩ := pair_at pa h2
        have names : ∀ e ∈ ds.take i, isN e = true := fun e he => by
          obtain ⟨j, hj⟩ := List.mem_iff_getElem?.mp he
          rw [List.getElem?_take] at hj
          split at hj
          · rename_i hji
            have z := hall j hji
            unfold dupAt at z
            rw [hj] at z
            exact notF (Bool.or_eq_false_iff.mp z).1
          · cases hj
        have hd2l : ∀ z, d2 = .str z → z.length ≤ 1000 := fun z hz => hl z (by rw [← hz]; exact List.mem_of_getElem? hd2)
        have hdup : dupAt ds i = (!isN d2 || (ds.take i).any fun z => sameS z d2) := by
          unfold dupAt
          rw [hd2]
        have gi : ∀ {H3 : Hp}, Ex H1 H3 → Ev (tOp (rIxT K) (tVar 0) (tVar 3)) [some (.ref a), some (.int lo), some (.int hi), some (.int (0 + (i : Int)))] H3 u2 := fun e => ev_op (ev_var rfl) (ev_var rfl) (rv_ixT (st_of (e _ _ ha)) (at_of (j := i) (by omega) h2))
        show tIfS _ _ tNext _ [some (.ref a), some (.int lo), some (.int hi), some (.int (0 + (i : Int)))] H2
        refine s_when (b := dupAt ds i) ?_ (fun hb H4 e4 => ?_) (fun hb H4 e4 => ?_)
        · rw [hdup]
          by_cases hn : isN d2 = true
          · obtain ⟨s, rfl⟩ := isN_str hn
            obtain rfl := r2.strv
            refine et_or (et_not (et_B (ev_isN (gi e12) (r2.ex e12) hd2l))) fun _ => ?_
            rw [← inV_same (pairs_take i pa)]
            exact et_inSl2 rfl rfl (e12 _ _ ha) h2 (flat_names (pairs_take i pa) names)
          · have hn' : isN d2 = false := by simpa using hn
            refine et_or (et_not (et_B (ev_isN (gi e12) (r2.ex e12) hd2l))) fun z => absurd z (by simp [hn'])
        · have ew : wn lo hi (.tuple ds) = .tuple [.int (0 + (i : Int))] := by
            unfold wn
            rw [ht, if_pos rfl]
            dsimp only
            rw [first_some (by omega) hall hb, Int.zero_add]
          exact s_retP (evp_tup1 (n := 0) (evp_var rfl Rp.int (Da.mono _ _))) fun r H5 e5 hr5 => k r H5 (e1.trans (e12.trans (e4.trans e5))) (by rw [ew]; exact hr5)
        · exact ⟨_, rfl, e12.trans e4, fun j hj => by
            rcases Nat.lt_succ_iff_lt_or_eq.mp hj with z | z
            · exact hall j z
            · rw [z]
              exact hb⟩
      · rintro σ' H2 ⟨x3, rfl, e12, hall⟩
        have ew : wn lo hi (.tuple ds) = .none := by
          unfold wn
          rw [ht, if_pos rfl]
          dsimp only
          rw [first_none (by
            intro j hj
            exact hall j (by omega))]
        exact k .non H2 (e1.trans e12) (by rw [ew]; exact Rp.non)
    | _ => exact hx.elim
  | _ => exact q_when (b := true) (et_is (et_or (b := true) (et_not (et_B (ev_isi (ev_var rfl) hx (.inl rfl)))) fun z => absurd z (by simp [isA])) (by simp [isA])) (fun _ H1 e1 => out e1 rfl) (fun z => Bool.noConfusion z)
abbrev s__law_sign : Stmt := top 46
abbrev N__law_sign : List Str := ["_law_pool_here", "_law_signs"]
theorem sc__law_sign : FnScope N__law_sign ["_law_pool_here"] (defScope s__law_sign) := ⟨rfl, rfl, rfl, by decide +kernel, rfl, by decide +kernel, by decide +kernel⟩
def spSign : Sp := fun vs H Q _ => ∃ (M : Addr → Prop) (p : Addr), vs = [.ref p] ∧ Live M H ∧ PoolAt M H p ∧ ∀ c H', SmB p H H' → PoolAt M H' p → Q (.str ⟨#[c]⟩) H'
theorem ok_sign (T : Txt K mg) (D__law_draw : Df P w K mg base 1 "_law_draw" ["_law_pool_here", "_law_many"] spDraw) {f : Addr} {fd : FuncData} (F : Fun K "_law_sign" "_law_sign" s__law_sign f fd) : FnOk P w K mg base CX0 2 f fd ["_law_pool_here"] spSign := by
  refine F.ok sc__law_sign (fun vs H Q E h => ?_) (fun cdv A outer s H vs Q E hr h => ?_)
  · obtain ⟨M, p, rfl, _⟩ := h
    rfl
  obtain ⟨M, p, rfl, hM, hP, k⟩ := h
  refine ⟨_, (pss_cons (ps_set (i := 1) sc__law_sign.nd rfl (Or.inl rfl) pe_str)
  (pss_one (ps_ret (pe_ix ix_str (pv 1) (pe_call D__law_draw.G (hr.mono (by omega)) rfl D__law_draw.m D__law_draw.kp D__law_draw.b .nil pass0 (pa_cons (pv 0) (pa_cons (pe_callB call_len_str (by rfl) T.b_len (by decide +kernel) (pa_cons (pv 1) pa_nil)) pa_nil))) (fun _ _ => rfl))))), ?_⟩
  refine q_asg ev_c fun H1 e1 => ?_
  refine ⟨_, rfl, _, rfl, _, rfl, _, rfl, (by decide +kernel), M, p, _, rfl, hM.ex e1, hP.ex e1, (by decide +kernel), lgs (lt40 (by decide +kernel)), fun d H2 d0 d1 s2 P2 => ?_⟩
  obtain ⟨c, hc⟩ := at_sign d0 d1
  exact ⟨_, d, c, rfl, rfl, (by decide +kernel), hc, k c H2 ((SmB.of e1).trans s2) P2⟩
abbrev s__law_bad : Stmt := top 47
abbrev N__law_bad : List Str := ["_law_pool_here", "_law_which", "_law_word", "_law_at"]
theorem sc__law_bad : FnScope N__law_bad ["_law_pool_here"] (defScope s__law_bad) := ⟨rfl, rfl, rfl, by decide +kernel, rfl, by decide +kernel, by decide +kernel⟩
/-- data of bounded texts -/
def okD (d : PyData) : Prop := ∀ z, d = .str z → z.length ≤ 100
def spBad : Sp := fun vs H Q _ => ∃ (M : Addr → Prop) (p : Addr), vs = [.ref p] ∧ Live M H ∧ M p ∧ PoolAt M H p ∧ ∀ v d H', okD d → SmB p H H' → PoolAt M H' p → Live M H' → Rp M H' 1 v d → Q v H'
theorem ok_bad (T : Txt K mg) (D__law_draw : Df P w K mg base 1 "_law_draw" ["_law_pool_here", "_law_many"] spDraw) (D__law_pick : Df P w K mg base 2 "_law_pick" ["_law_pool_here", "_law_items"] (spPick K)) (D__law_name : Df P w K mg base 2 "_law_name" ["_law_pool_here", "_law_taken"] (spName K)) (D__law_sign : Df P w K mg base 2 "_law_sign" ["_law_pool_here"] spSign)
    {f : Addr} {fd : FuncData} (F : Fun K "_law_bad" "_law_bad" s__law_bad f fd) : FnOk P w K mg base CX0 3 f fd ["_law_pool_here"] spBad := by
  refine F.ok sc__law_bad (fun vs H Q E h => ?_) (fun cdv A outer s H vs Q E hr h => ?_)
  · obtain ⟨M, p, rfl, _⟩ := h
    rfl
  obtain ⟨M, p, rfl, hM, hMp, hP, k⟩ := h
  refine ⟨_, (pss_cons (ps_set (i := 1) sc__law_bad.nd rfl (Or.inl rfl) (pe_call D__law_draw.G (hr.mono (by omega)) rfl D__law_draw.m D__law_draw.kp D__law_draw.b .nil pass0 (pa_cons (pv 0) (pa_cons pe_int pa_nil))))
  (pss_cons (ps_if (pt_cmpR op_eq (pv 1) pe_int (nomark _)) (pss_cons (ps_set (i := 2) sc__law_bad.nd rfl (Or.inl rfl) (pe_slice sl_str (pe_call D__law_name.G (hr.mono (by omega)) rfl D__law_name.m D__law_name.kp D__law_name.b .nil pass0 (pa_cons (pv 0) (pa_cons (pe_lst pa_nil) pa_nil))) po_none (po_some pe_int)))
  (pss_cons (ps_set (i := 3) sc__law_bad.nd rfl (Or.inl rfl) (pe_call D__law_draw.G (hr.mono (by omega)) rfl D__law_draw.m D__law_draw.kp D__law_draw.b .nil pass0 (pa_cons (pv 0) (pa_cons (pe_op op_add pe_int (pe_callB call_len_str (by rfl) T.b_len (by decide +kernel) (pa_cons (pv 2) pa_nil))) pa_nil))))
  (pss_one (ps_ret (pe_op op_add_str (pe_op op_add_str (pe_slice sl_str (pv 2) po_none (po_some (pv 3))) (pe_call D__law_sign.G (hr.mono (by omega)) rfl D__law_sign.m D__law_sign.kp D__law_sign.b .nil pass0 (pa_cons (pv 0) pa_nil))) (pe_slice sl_str (pv 2) (po_some (pv 3)) po_none)))))) pss_nil)
  (pss_cons (ps_if (pt_cmpR op_eq (pv 1) pe_int (nomark _)) (pss_one (ps_ret (pe_op op_add_str (pe_call D__law_name.G (hr.mono (by omega)) rfl D__law_name.m D__law_name.kp D__law_name.b .nil pass0 (pa_cons (pv 0) (pa_cons (pe_lst pa_nil) pa_nil))) pe_str))) pss_nil)
  (pss_one (ps_ret (pe_call D__law_pick.G (hr.mono (by omega)) rfl D__law_pick.m D__law_pick.kp D__law_pick.b .nil pass0 (pa_cons (pv 0) (pa_cons (pe_lst (pa_cons pe_str (pa_cons pe_non (pa_cons pe_bl (pa_cons pe_int (pa_cons (pe_op op_pow pe_int pe_int) (pa_cons (pe_tup (pa_cons pe_str pa_nil)) (pa_cons (pe_lst (pa_cons pe_str pa_nil)) (pa_cons pe_str (pa_cons pe_str (pa_cons pe_str pa_nil))))))))))) pa_nil)))))))), ?_⟩
  have hO : ∀ {M : Addr → Prop} {H : Hp}, PoolAt M H p → H p ≠ none := fun P q => by
    obtain ⟨o, ho⟩ := P.some
    rw [ho] at q
    cases q
  have ne : ∀ {M : Addr → Prop} {H : Hp} {t : Addr}, PoolAt M H p → H t = none → t ≠ p := fun P h z => hO P (by rw [← z]; exact h)
  refine ⟨_, rfl, M, p, 4, rfl, hM, hP, by decide, lgs (by decide), fun c H1 _ _ s1 P1 => ?_⟩
  have L1 := hM.smb s1 (hO P1)
  refine q_when (et_test (ev_op (ev_var rfl) ev_c (rv_eq rfl))) (fun _ H2 e2 => ?_) (fun _ H2 e2 => ?_)
  · have P2 := P1.ex e2
    have L2' := L1.ex e2
    refine ⟨_, rfl, Nat.zero_le _, fun t ht => ⟨M, p, t, [], rfl, L2'.ex (Ex.new ht), P2.ex (Ex.new ht), sq_of upd_same, ne P2 ht, (by decide), fun z H3 hz s3 P3 => ?_⟩⟩
    have s03 := s1.trans (((SmB.of e2).trans (SmB.of (Ex.new ht))).trans s3)
    have L3 := (L2'.ex (Ex.new ht)).smb s3 (hO P3)
    have hzs : z.length ≤ sizeLine := Nat.le_trans hz.hi (by decide)
    refine ⟨_, rfl, z, rfl, hzs, ?_⟩
    have hc1 := cutS_le z none (some 7)
    generalize cutS z none (some 7) = y at hc1
    have hy : y.length ≤ 8 := Nat.le_trans hc1 hz.hi
    have hys : y.length ≤ sizeLine := Nat.le_trans hy (by decide)
    refine ⟨_, rfl, _, rfl, y, rfl, hys, _, _, rfl, rfl, M, p, _, rfl, L3, P3, by omega, lgs (lt40 (by omega)), fun at' H4 _ _ s4 P4 => ?_⟩
    have L4 := L3.smb s4 (hO P4)
    refine ⟨_, rfl, _, rfl, _, rfl, y, rfl, hys, _, rfl, M, p, rfl, L4, P4, fun sg H5 s5 P5 => ?_⟩
    have hc2 := cutS_le y none (some at')
    have hc3 := cutS_le y (some at') none
    refine ⟨_, _, rfl, rfl, ?_, _, rfl, _, rfl, _, rfl, y, rfl, hys, _, _, rfl, rfl, ?_, ?_⟩
    · rw [one_len]
      exact Nat.le_trans (by omega : _ ≤ 100) (by decide)
    · rw [strLen_append, one_len]
      exact Nat.le_trans (by omega : _ ≤ 100) (by decide)
    · refine k _ (.str _) H5 (fun z hz => ?_) ((s03.trans s4).trans s5) P5 (L4.smb s5 (hO P5)) Rp.str
      cases hz
      rw [strLen_append, strLen_append, one_len]
      omega
  refine q_when (et_test (ev_op (ev_var rfl) ev_c (rv_eq rfl))) (fun _ H3 e3 => ?_) (fun _ H3 e3 => ?_)
  · have e13 := e2.trans e3
    have P3 := P1.ex e13
    have L3 := L1.ex e13
    refine ⟨_, rfl, Nat.zero_le _, fun t ht => ⟨M, p, t, [], rfl, L3.ex (Ex.new ht), P3.ex (Ex.new ht), sq_of upd_same, ne P3 ht, (by decide), fun z H4 hz s4 P4 => ?_⟩⟩
    refine ⟨_, _, rfl, rfl, ?_, ?_⟩
    · exact Nat.le_trans (Nat.add_le_add_right hz.hi _) (by decide +kernel)
    · refine k _ (.str _) H4 (fun y hy => ?_) (s1.trans (((SmB.of e13).trans (SmB.of (Ex.new ht))).trans s4)) P4 ((L3.ex (Ex.new ht)).smb s4 (hO P4)) Rp.str
      cases hy
      rw [strLen_append]
      exact Nat.le_trans (Nat.add_le_add_right hz.hi _) (by decide +kernel)
  · have e13 := e2.trans e3
    have L3 := L1.ex e13
    refine pick_ok (M := M) (ds := [.str "", .none, .bool true, .int 0, .int (10 ^ (40 : Int).toNat), .tuple [.str "a"], .list [.str "a"], .str "A", .str "self ", .str "Self"]) L3 hMp (P1.ex e13) rfl
      (elp_lstM (eap_consM strM (eap_consM nonM (eap_consM blM (eap_consM intM (eap_consM (evp_of (v := .int (10 ^ (40 : Int).toNat)) (ev_op ev_c ev_c (rv_I ⟨by decide, by decide, by decide⟩)) Rp.int (DaM.mono _ _ _)) (eap_consM (evp_tupM (n := 0) (ds := [.str "a"]) L3 (eap_consM strM eap_nilM) (by decide)) (eap_consM (EvLP.daM (n := 0) (ds := [.str "a"]) L3 (elp_lstM (eap_consM strM eap_nilM) (by decide)) (by decide)) (eap_consM strM (eap_consM strM (eap_consM strM eap_nilM)))))))))) (by decide)) (by decide) (by decide) fun v d H4 hd s4 P4 L4 r4 => ?_
    refine k v d H4 (fun z hz => ?_) ((s1.trans (SmB.of e13)).trans s4) P4 L4 r4
    rw [hz] at hd
    simp only [List.mem_cons, List.not_mem_nil, or_false] at hd
    rcases hd with q | q | q | q | q | q | q | q | q | q <;> first
      | (cases q <;> done)
      | (cases q
         decide +kernel)
abbrev s__law_names : Stmt := top 44
abbrev N__law_names : List Str := ["_law_pool_here", "_law_count", "_law_names_here", "_law_k"]
theorem sc__law_names : FnScope N__law_names ["_law_pool_here", "_law_count"] (defScope s__law_names) := ⟨rfl, rfl, rfl, by decide +kernel, rfl, by decide +kernel, by decide +kernel⟩
def spNames : Sp := fun vs H Q _ => ∃ (M : Addr → Prop) (p : Addr) (n : Int), vs = [.ref p, .int n] ∧ 0 ≤ n ∧ n ≤ 20 ∧ Live M H ∧ M p ∧ PoolAt M H p ∧
  ∀ (L : Addr) (ts : List Str) (H' : Hp), H L = none → (∀ z ∈ ts, IsName z) → ts.length = n.toNat → H' L = some (.lst (ts.map V.str)) → SmB p H H' → PoolAt (fun a => M a ∨ a = L) H' p → Live (fun a => M a ∨ a = L) H' → Q (.ref L) H'
theorem ok_names (T : Txt K mg) (D__law_name : Df P w K mg base 2 "_law_name" ["_law_pool_here", "_law_taken"] (spName K)) {f : Addr} {fd : FuncData} (F : Fun K "_law_names" "_law_names" s__law_names f fd) :
    FnOk P w K mg base CX0 3 f fd ["_law_pool_here", "_law_count"] spNames := by
  refine F.ok sc__law_names (fun vs H Q E h => ?_) (fun cdv A outer s H vs Q E hr h => ?_)
  · obtain ⟨M, p, n, rfl, _⟩ := h
    rfl
  obtain ⟨M, p, n, rfl, n0, n1, hM, hMp, hP, k⟩ := h
  refine ⟨_, (pss_cons (ps_set (i := 2) sc__law_names.nd rfl (Or.inl rfl) (pe_lst pa_nil))
  (pss_cons (ps_for PassesOwn.never rfl (pi_range1 (by rfl) T.b_range (pa_cons (pv 1) pa_nil)) (pg_name (i := 3) sc__law_names.nd rfl (Or.inl rfl))
  (pss_one (ps_expr (pe_bm PySem.F.plainAttrs_list PySem.F.slot_list_append PySem.F.type_list_append mt_append (pv 2) (pa_cons (pe_call D__law_name.G (hr.mono (by omega)) rfl D__law_name.m D__law_name.kp D__law_name.b .nil pass0 (pa_cons (pv 0) (pa_cons (pv 2) pa_nil))) pa_nil)))))
  (pss_one (ps_ret (pv 2))))), ?_⟩
  have hO : ∀ {M : Addr → Prop} {H : Hp}, PoolAt M H p → H p ≠ none := fun P q => by
    obtain ⟨o, ho⟩ := P.some
    rw [ho] at q
    cases q
  refine ⟨Nat.zero_le _, fun L hL => ?_⟩
  have hLp : L ≠ p := fun z => hO hP (by rw [← z]; exact hL)
  have P1 : PoolAt (fun a => M a ∨ a = L) (upd H L (.lst [])) p := (hP.addM (N := fun a => M a ∨ a = L) fun a z => z.imp id fun z => by rw [z]; exact hL).upd (.inr rfl) hLp.symm
  have s1 : SmB p H (upd H L (.lst [])) := SmB.of (Ex.new hL)
  have hL1 : (upd H L (.lst [])) L = some (.lst []) := upd_same
  have Lm : ∀ {H' : Hp} {xs : List V}, SmB p H H' → H' p ≠ none → H' L = some (.lst xs) → Live (fun a => M a ∨ a = L) H' := fun s hp hl a z => by
    rcases z with z | z
    · by_cases e : a = p
      · rw [e]
        exact hp
      · intro q
        cases h1 : H a with
        | none => exact hM a z h1
        | some o =>
          rw [s a o e h1] at q
          cases q
    · rw [z, hl]
      exact fun q => nomatch q
  refine ⟨_, rfl, n, rfl, by omega, by omega, for_range (lo := 0) (n := n.toNat) (fun i σ' H' => ∃ (x : Option V) (ts : List Str), σ' = [some (.ref p), some (.int n), some (.ref L), x] ∧ ts.length = i ∧ (∀ z ∈ ts, IsName z) ∧ H' L = some (.lst (ts.map V.str)) ∧ SmB p H H' ∧ PoolAt (fun a => M a ∨ a = L) H' p)
    ⟨_, [], rfl, rfl, fun z h => absurd h List.not_mem_nil, hL1, s1, P1⟩ ?_ ?_⟩
  · rintro i σ' H2 hi ⟨x, ts, rfl, hl, hn, hL2, s2, P2⟩
    refine ⟨_, rfl, .inl ⟨rfl, _, sq_of hL2⟩, _, rfl, _, rfl, fun a => M a ∨ a = L, p, L, ts, rfl, Lm s2 (hO P2) hL2, P2, sq_of hL2, hLp, by omega, fun z H3 hz s3 P3 => ?_⟩
    have hL3 := s3 _ _ hLp hL2
    refine ⟨L, _, .str z, rfl, rfl, hL3, small1000 (by rw [List.length_map]; omega), ?_⟩
    refine ⟨_, ts ++ [z], rfl, by rw [List.length_append, List.length_singleton, hl], fun y hy => ?_, by rw [upd_same, List.map_append] <;> rfl, fun b o nb hb => ?_, P3.upd (.inr rfl) hLp.symm⟩
    · rcases List.mem_append.mp hy with q | q
      · exact hn y q
      · have e : y = z := by simpa using q
        rw [e]
        exact hz
    · rw [upd_ne (ne_of_none hb hL)]
      exact s3 b o nb (s2 b o nb hb)
  · rintro σ' H2 ⟨x, ts, rfl, hl, hn, hL2, s2, P2⟩
    exact ⟨_, rfl, k L ts H2 hL hn hl hL2 s2 P2 (Lm s2 (hO P2) hL2)⟩
abbrev s__law_value : Stmt := top 48
abbrev N__law_value : List Str := ["_law_pool_here", "_law_most_names", "_law_spoil", "_law_shape", "_law_items"]
theorem sc__law_value : FnScope N__law_value ["_law_pool_here", "_law_most_names"] (defScope s__law_value) := ⟨rfl, rfl, rfl, by decide +kernel, rfl, by decide +kernel, by decide +kernel⟩
/-- a value that the law draws -/
def Drawn (d : PyData) : Prop := ∃ ds : List PyData, (d = .list ds ∨ d = .tuple ds) ∧ ds.length ≤ 20 ∧ ∀ x ∈ ds, okD x
def spValue : Sp := fun vs H Q _ => ∃ (M : Addr → Prop) (p : Addr) (n : Int), vs = [.ref p, .int n] ∧ 0 ≤ n ∧ n ≤ 10 ∧ Live M H ∧ M p ∧ PoolAt M H p ∧ ∀ v d H', Drawn d → SmB p H H' → PoolAt M H' p → Live M H' → Rp M H' 2 v d → Q v H'
theorem ok_value (T : Txt K mg) (D__law_draw : Df P w K mg base 1 "_law_draw" ["_law_pool_here", "_law_many"] spDraw) (D__law_pick : Df P w K mg base 2 "_law_pick" ["_law_pool_here", "_law_items"] (spPick K)) (D__law_names : Df P w K mg base 3 "_law_names" ["_law_pool_here", "_law_count"] spNames)
    (D__law_bad : Df P w K mg base 3 "_law_bad" ["_law_pool_here"] spBad) {f : Addr} {fd : FuncData} (F : Fun K "_law_value" "_law_value" s__law_value f fd) : FnOk P w K mg base CX0 4 f fd ["_law_pool_here", "_law_most_names"] spValue := by
  refine F.ok sc__law_value (fun vs H Q E h => ?_) (fun cdv A outer s H vs Q E hr h => ?_)
  · obtain ⟨M, p, n, rfl, _⟩ := h
    rfl
  obtain ⟨M, p, n, rfl, n0, n1, hM, hMp, hP, k⟩ := h
  refine ⟨_, (pss_cons (ps_set (i := 2) sc__law_value.nd rfl (Or.inl rfl) (pe_call D__law_draw.G (hr.mono (by omega)) rfl D__law_draw.m D__law_draw.kp D__law_draw.b .nil pass0 (pa_cons (pv 0) (pa_cons pe_int pa_nil))))
  (pss_cons (ps_set (i := 3) sc__law_value.nd rfl (Or.inl rfl) (pe_call D__law_draw.G (hr.mono (by omega)) rfl D__law_draw.m D__law_draw.kp D__law_draw.b .nil pass0 (pa_cons (pv 0) (pa_cons pe_int pa_nil))))
  (pss_cons (ps_set (i := 4) sc__law_value.nd rfl (Or.inl rfl) (pe_call D__law_names.G (hr.mono (by omega)) rfl D__law_names.m D__law_names.kp D__law_names.b .nil pass0 (pa_cons (pv 0) (pa_cons (pe_call D__law_draw.G (hr.mono (by omega)) rfl D__law_draw.m D__law_draw.kp D__law_draw.b .nil pass0 (pa_cons (pv 0) (pa_cons (pe_op op_add (pv 1) pe_int) pa_nil))) pa_nil))))
  (pss_cut (ps_if (PW.pt (pw_and (pt_cmpR op_gt (pe_callB call_len_seq (by rfl) T.b_len (by decide +kernel) (pa_cons (pv 4) pa_nil)) pe_int (nomark _)) (pw_and1 (pt_cmpR op_eq (pv 2) pe_int (nomark _))))) (pss_one (ps_asg (pe_call D__law_bad.G (hr.mono (by omega)) rfl D__law_bad.m D__law_bad.kp D__law_bad.b .nil pass0 (pa_cons (pv 0) pa_nil)) (pg_sub (pv 4) (pe_call D__law_draw.G (hr.mono (by omega)) rfl D__law_draw.m D__law_draw.kp D__law_draw.b .nil pass0 (pa_cons (pv 0) (pa_cons (pe_callB call_len_seq (by rfl) T.b_len (by decide +kernel) (pa_cons (pv 4) pa_nil)) pa_nil))) set_list))) pss_nil)
  (pss_cut (ps_if (PW.pt (pw_and (pt_cmpR op_gt (pe_callB call_len_seq (by rfl) T.b_len (by decide +kernel) (pa_cons (pv 4) pa_nil)) pe_int (nomark _)) (pw_and1 (pt_cmpR op_eq (pv 2) pe_int (nomark _))))) (pss_one (ps_asg (pe_call D__law_pick.G (hr.mono (by omega)) rfl D__law_pick.m D__law_pick.kp D__law_pick.b .nil pass0 (pa_cons (pv 0) (pa_cons (pv 4) pa_nil))) (pg_sub (pv 4) (pe_call D__law_draw.G (hr.mono (by omega)) rfl D__law_draw.m D__law_draw.kp D__law_draw.b .nil pass0 (pa_cons (pv 0) (pa_cons (pe_callB call_len_seq (by rfl) T.b_len (by decide +kernel) (pa_cons (pv 4) pa_nil)) pa_nil))) set_list))) pss_nil)
  (pss_cons (ps_if (pt_cmpR op_eq (pv 3) pe_int (nomark _)) (pss_one (ps_ret (pe_callTy call_list_of (by rfl) T.b_list (by decide +kernel) (pa_cons (pv 4) pa_nil)))) pss_nil)
  (pss_one (ps_ret (pe_callTy call_tuple_of (by rfl) T.b_tuple (by decide +kernel) (pa_cons (pv 4) pa_nil)))))))))), ?_⟩
  have hO : ∀ {M : Addr → Prop} {H : Hp}, PoolAt M H p → H p ≠ none := fun P q => by
    obtain ⟨o, ho⟩ := P.some
    rw [ho] at q
    cases q
  refine ⟨_, rfl, M, p, 4, rfl, hM, hP, by decide, lgs (by decide), fun sp H1 _ _ s1 P1 => ?_⟩
  have L1 := hM.smb s1 (hO P1)
  refine ⟨_, rfl, M, p, 6, rfl, L1, P1, by decide, lgs (by decide), fun sh H2 _ _ s2 P2 => ?_⟩
  have L2' := L1.smb s2 (hO P2)
  refine ⟨_, rfl, _, rfl, _, rfl, _, _, rfl, rfl, M, p, _, rfl, L2', P2, by omega, lgs (lt40 (by omega)), fun c H3 c0 c1 s3 P3 => ?_⟩
  have L3 := L2'.smb s3 (hO P3)
  refine ⟨M, p, c, rfl, c0, by omega, L3, hMp, P3, fun L ts H4 hLn hn hl hL4 s4 P4 L4 => ?_⟩
  have hLp : L ≠ p := fun z => hO P3 (by rw [← z]; exact hLn)
  have hHL : H L = none := by
    cases h : H L with
    | none => rfl
    | some o =>
      have z := s3 _ _ hLp (s2 _ _ hLp (s1 _ _ hLp h))
      rw [hLn] at z
      cases z
  have s04 : SmB p H H4 := ((s1.trans s2).trans s3).trans s4
  have sts : ∀ (ts : List Str), Paired (Rp (fun a => M a ∨ a = L) H4 1) (ts.map V.str) (ts.map PyData.str) := fun ts => by
    induction ts with
    | nil => exact .nil
    | cons a r ih => exact .cons Rp.str ih
  have hok0 : ∀ d ∈ ts.map PyData.str, okD d := fun d hd => by
    obtain ⟨y, hy, rfl⟩ := List.mem_map.mp hd
    intro z hz
    cases hz
    exact Nat.le_trans (hn y hy).hi (by decide)
  have setOk : ∀ {H5 : Hp} {xs : List V} {ds : List PyData} {v : V} {d : PyData} {j : Nat}, Paired (Rp (fun a => M a ∨ a = L) H5 1) xs ds → ds.length ≤ 20 → (∀ d ∈ ds, okD d) → SmB p H H5 → PoolAt (fun a => M a ∨ a = L) H5 p → Live (fun a => M a ∨ a = L) H5 → Rp (fun a => M a ∨ a = L) H5 1 v d → okD d →
      ∃ xs' ds', (upd H5 L (.lst (xs.set j v))) L = some (.lst xs') ∧ Paired (Rp (fun a => M a ∨ a = L) (upd H5 L (.lst (xs.set j v))) 1) xs' ds' ∧ ds'.length ≤ 20 ∧ (∀ d ∈ ds', okD d) ∧ SmB p H (upd H5 L (.lst (xs.set j v))) ∧ PoolAt (fun a => M a ∨ a = L) (upd H5 L (.lst (xs.set j v))) p ∧ Live (fun a => M a ∨ a = L) (upd H5 L (.lst (xs.set j v))) := fun {H5 xs ds v d j} pr hl hd s P Lv r hk => by
    have eu : ExM (fun a => M a ∨ a = L) H5 (upd H5 L (.lst (xs.set j v))) := ExM.upd (.inr rfl)
    refine ⟨_, ds.set j d, upd_same, pairs_set (r.exM (fun _ z => z) eu) j (Paired.mapP pr fun _ _ z => z.exM (fun _ z => z) eu), by rw [List.length_set]; exact hl, fun e he => ?_, fun b o nb hb => ?_, P.upd (.inr rfl) hLp.symm, fun a z => ?_⟩
    · rcases List.mem_or_eq_of_mem_set he with q | q
      · exact hd e q
      · rw [q]
        exact hk
    · rw [upd_ne (ne_of_none hb hHL)]
      exact s b o nb hb
    · by_cases e : a = L
      · rw [e, upd_same]
        exact fun q => nomatch q
      · rw [upd_ne e]
        exact Lv a z
  refine q_cut (M := fun σ' H' => ∃ xs ds, σ' = [some (.ref p), some (.int n), some (.int sp), some (.int sh), some (.ref L)] ∧ H' L = some (.lst xs) ∧ Paired (Rp (fun a => M a ∨ a = L) H' 1) xs ds ∧ ds.length ≤ 20 ∧ (∀ d ∈ ds, okD d) ∧ SmB p H H' ∧ PoolAt (fun a => M a ∨ a = L) H' p ∧ Live (fun a => M a ∨ a = L) H') ?_ ?_
  · refine s_when (et_and (et_test (ev_op (ev_lenL (ev_var rfl) (sq_of hL4)) ev_c rv_I0)) fun _ => et_test (ev_op (ev_var rfl) ev_c (rv_eq rfl))) (fun hb H5 e5 => ?_) (fun _ H5 e5 => ?_)
    · have h0 : 0 < (ts.map V.str).length := by
        have z := of_decide_eq_true (Bool.and_eq_true_iff.mp hb).1
        omega
      refine ⟨_, rfl, fun a => M a ∨ a = L, p, rfl, L4.ex e5, .inl hMp, P4.ex e5, fun v d H6 hd s6 P6 L6 r6 => ?_⟩
      have hL6 := s6 _ _ hLp (e5 _ _ hL4)
      refine ⟨_, rfl, _, rfl, _, rfl, L, _, rfl, .inl (sq_of hL6), fun a => M a ∨ a = L, p, _, rfl, L6, P6, by omega, lgs (lt40 (by rw [List.length_map]; omega)), fun j H7 j0 j1 s7 P7 => ?_⟩
      obtain ⟨j, rfl⟩ : ∃ i : Nat, j = (i : Int) := ⟨j.toNat, by omega⟩
      refine ⟨L, _, (j : Int), j, rfl, rfl, s7 _ _ hLp hL6, ixN_nat (by omega), ?_⟩
      obtain ⟨xs', ds', z⟩ := setOk (H5 := H7) (xs := ts.map V.str) (ds := ts.map .str) (v := v) (d := d) (j := j) (Paired.mapP (sts ts) fun _ _ z => ((z.ex e5).exM (fun _ z => z) (exM_of s6 (.inl hMp))).exM (fun _ z => z) (exM_of s7 (.inl hMp))) (by rw [List.length_map]; omega) hok0 (((s04.trans (SmB.of e5)).trans s6).trans s7) P7 (L6.smb s7 (hO P7)) (r6.exM (fun _ z => z) (exM_of s7 (.inl hMp))) hd
      exact ⟨xs', ds', rfl, z⟩
    · exact ⟨_, ts.map .str, rfl, e5 _ _ hL4, Paired.mapP (sts ts) fun _ _ z => z.ex e5, by rw [List.length_map]; omega, fun d hd => by
        obtain ⟨y, hy, rfl⟩ := List.mem_map.mp hd
        intro z hz
        cases hz
        exact Nat.le_trans (hn y hy).hi (by decide), s04.trans (SmB.of e5), P4.ex e5, L4.ex e5⟩
  rintro σ' H5 ⟨xs, ds, rfl, hL5, pr, hdl, hok, s5, P5, L5⟩
  have hxl := pair_len pr
  refine q_cut (M := fun σ' H' => ∃ xs ds, σ' = [some (.ref p), some (.int n), some (.int sp), some (.int sh), some (.ref L)] ∧ H' L = some (.lst xs) ∧ Paired (Rp (fun a => M a ∨ a = L) H' 1) xs ds ∧ ds.length ≤ 20 ∧ (∀ d ∈ ds, okD d) ∧ SmB p H H' ∧ PoolAt (fun a => M a ∨ a = L) H' p ∧ Live (fun a => M a ∨ a = L) H') ?_ ?_
  · refine s_when (et_and (et_test (ev_op (ev_lenL (ev_var rfl) (sq_of hL5)) ev_c rv_I0)) fun _ => et_test (ev_op (ev_var rfl) ev_c (rv_eq rfl))) (fun hb H6 e6 => ?_) (fun _ H6 e6 => ?_)
    · have h0 : 0 < xs.length := by
        have z := of_decide_eq_true (Bool.and_eq_true_iff.mp hb).1
        omega
      refine ⟨_, rfl, _, rfl, fun a => M a ∨ a = L, p, L, xs, rfl, L5.ex e6, P5.ex e6, sq_of (e6 _ _ hL5), hLp, h0, by omega, fun v H7 hv s7 P7 => ?_⟩
      obtain ⟨i, hi⟩ := List.mem_iff_getElem?.mp hv
      obtain ⟨d, hd, r⟩ := pair_at pr hi
      have hL7 := s7 _ _ hLp (e6 _ _ hL5)
      have L7 := (L5.ex e6).smb s7 (hO P7)
      refine ⟨_, rfl, _, rfl, _, rfl, L, _, rfl, .inl (sq_of hL7), fun a => M a ∨ a = L, p, _, rfl, L7, P7, by omega, lgs (lt40 (by omega)), fun j H8 j0 j1 s8 P8 => ?_⟩
      obtain ⟨j, rfl⟩ : ∃ i : Nat, j = (i : Int) := ⟨j.toNat, by omega⟩
      refine ⟨L, _, (j : Int), j, rfl, rfl, s8 _ _ hLp hL7, ixN_nat (by omega), ?_⟩
      have lift : ∀ {v : V} {d : PyData}, Rp (fun a => M a ∨ a = L) H5 1 v d → Rp (fun a => M a ∨ a = L) H8 1 v d := fun z => ((z.ex e6).exM (fun _ z => z) (exM_of s7 (.inl hMp))).exM (fun _ z => z) (exM_of s8 (.inl hMp))
      obtain ⟨xs', ds', z⟩ := setOk (H5 := H8) (xs := xs) (ds := ds) (v := v) (d := d) (j := j) (Paired.mapP pr fun _ _ z => lift z) hdl hok (((s5.trans (SmB.of e6)).trans s7).trans s8) P8 (L7.smb s8 (hO P8)) (lift r) (hok d (List.mem_of_getElem? hd))
      exact ⟨xs', ds', rfl, z⟩
    · exact ⟨xs, ds, rfl, e6 _ _ hL5, Paired.mapP pr fun _ _ z => z.ex e6, hdl, hok, s5.trans (SmB.of e6), P5.ex e6, L5.ex e6⟩
  rintro σ' H6 ⟨ys, es, rfl, hL6, pr6, hel, hok6, s6, P6, L6⟩
  have hyl := pair_len pr6
  have LM : Live M H6 := fun a z => L6 a (.inl z)
  have PM : PoolAt M H6 p := P6.weak fun a z => .inl z
  refine q_when (et_test (ev_op (ev_var rfl) ev_c (rv_eq rfl))) (fun _ H7 e7 => ?_) (fun _ H7 e7 => ?_)
  · exact ret_ (cb1 ⟨_, rfl, L, ys, rfl, .inl (sq_of (e7 _ _ hL6)), fun l hl' => k _ (.list es) _ ⟨es, .inl rfl, hel, hok6⟩ ((s6.trans (SmB.of e7)).trans (SmB.of (Ex.new hl'))) ((PM.ex e7).ex (Ex.new hl')) ((LM.ex e7).ex (Ex.new hl')) ⟨ys, upd_same, by omega, Paired.mapP pr6 fun _ _ z => (z.weak fun _ q => .inl q).ex (e7.trans (Ex.new hl')), fun z => (LM.ex e7) l z hl'⟩⟩)
  · exact ret_ (cb1 ⟨_, rfl, L, ys, rfl, .inl ⟨sq_of (e7 _ _ hL6), fun l hl' => k _ (.tuple es) _ ⟨es, .inr rfl, hel, hok6⟩ ((s6.trans (SmB.of e7)).trans (SmB.of (Ex.new hl'))) ((PM.ex e7).ex (Ex.new hl')) ((LM.ex e7).ex (Ex.new hl')) ⟨ys, upd_same, by omega, Paired.mapP pr6 fun _ _ z => (z.weak fun _ q => .inl q).ex (e7.trans (Ex.new hl')), fun z => (LM.ex e7) l z hl'⟩⟩⟩)
end
end My
set_option Elab.async false
set_option linter.all false
set_option maxRecDepth 100000
set_option maxHeartbeats 4000000
namespace My
open PySem PySem.Spec PyProof.Rows L2 Evl Cm
section
variable {P : Program} {w : World} {K : PySem.W.Frag} {mg : Str → Option Value} {base : Heap}
abbrev s_is_integer : Stmt := top 3
abbrev N_is_integer : List Str := ["value"]
theorem sc_is_integer : FnScope N_is_integer ["value"] (defScope s_is_integer) := ⟨rfl, rfl, rfl, by decide +kernel, rfl, by decide +kernel, by decide +kernel⟩
def spIsInt : Sp := fun vs H Q _ => ∃ (x : V) (n : Nat) (d : PyData), vs = [x] ∧ Rp M0 H n x d ∧ ∀ H', Ex H H' → Q (.bl (isA "int" d && !isA "bool" d)) H'
theorem ok_is_integer (T : Txt K mg) {f : Addr} {fd : FuncData} (F : Fun K "is_integer" "is_integer" s_is_integer f fd) : FnOk P w K mg base CX0 1 f fd ["value"] spIsInt := by
  refine F.ok sc_is_integer (fun vs H Q E h => ?_) (fun cdv A outer s H vs Q E hr h => ?_)
  · obtain ⟨x, n, d, rfl, _⟩ := h
    rfl
  obtain ⟨x, n, d, rfl, hx, k⟩ := h
  refine ⟨_, (pss_one (ps_ret (pe_and (pe_callB call_isi (by rfl) T.b_isinstance (by decide +kernel) (pa_cons (pv 0) (pa_cons (pe_bltn (v := .ty "int") (by rfl) T.b_int (by decide +kernel) rfl) pa_nil))) (pe_one (pe_not (pe_callB call_isi (by rfl) T.b_isinstance (by decide +kernel) (pa_cons (pv 0) (pa_cons (pe_bltn (v := .ty "bool") (by rfl) T.b_bool (by decide +kernel) rfl) pa_nil)))))))), ?_⟩
  exact s_ret (ev_andV (ev_isi (ev_var rfl) hx (.inr (.inr (.inr (.inl rfl))))) fun _ => ev_notV (ev_isi (ev_var rfl) hx (.inr (.inr (.inl rfl))))) fun H1 e1 => k H1 e1
abbrev s_is_index : Stmt := top 4
abbrev N_is_index : List Str := ["value", "many"]
theorem sc_is_index : FnScope N_is_index ["value", "many"] (defScope s_is_index) := ⟨rfl, rfl, rfl, by decide +kernel, rfl, by decide +kernel, by decide +kernel⟩
def spIsIx : Sp := fun vs H Q _ => ∃ (i m : Int), vs = [.int i, .int m] ∧ ∀ H', Ex H H' → Q (.bl (decide (0 ≤ i) && decide (i < m))) H'
theorem ok_is_index (T : Txt K mg) (D_is_integer : Df P w K mg base 1 "is_integer" ["value"] spIsInt) {f : Addr} {fd : FuncData} (F : Fun K "is_index" "is_index" s_is_index f fd) : FnOk P w K mg base CX0 2 f fd ["value", "many"] spIsIx := by
  refine F.ok sc_is_index (fun vs H Q E h => ?_) (fun cdv A outer s H vs Q E hr h => ?_)
  · obtain ⟨i, m, rfl, _⟩ := h
    rfl
  obtain ⟨i, m, rfl, k⟩ := h
  refine ⟨_, (pss_one (ps_ret (pe_and (pe_call D_is_integer.G (hr.mono (by omega)) rfl D_is_integer.m D_is_integer.kp D_is_integer.b .nil pass0 (pa_cons (pv 0) pa_nil)) (pe_one (pe_chain op_le op_lt pe_int (pv 0) (pv 1)))))), ?_⟩
  have hi : Ev (tCall spIsInt [] E0 (tCons (tVar 0) tNil)) (L2.start N_is_index [.int i, .int m]) H (.bl true) := fun H1 e1 Q' q => ⟨_, rfl, .int i, 0, .int i, rfl, Rp.int, fun H2 e2 => q H2 e2⟩
  exact s_ret (ev_andV hi fun _ => ev_chain (k1 := decide (0 ≤ i)) (k2 := decide (i < m)) ev_c (ev_var rfl) (ev_var rfl) rv_I0 fun _ => rv_I0) fun H1 e1 => k H1 e1
def emp : PyData := .tuple []
abbrev s_wrong_imports : Stmt := top 29
abbrev N_wrong_imports : List Str := ["imports", "others", "index", "item"]
theorem sc_wrong_imports : FnScope N_wrong_imports ["imports", "others"] (defScope s_wrong_imports) := ⟨rfl, rfl, rfl, by decide +kernel, rfl, by decide +kernel, by decide +kernel⟩
/-- a row of rows that is empty is never wrong -/
def spEmp (n : Nat) : Sp := fun vs H Q _ => ∃ (x : V) (os : List V), vs = x :: os ∧ os.length = n ∧ Rp M0 H 1 x emp ∧ ∀ H', Ex H H' → Q .non H'
theorem ok_wrong_imports (T : Txt K mg) (b_enumerate : mg "enumerate" = none) {f : Addr} {fd : FuncData} (F : Fun K "wrong_imports" "wrong_imports" s_wrong_imports f fd) : FnOk P w K mg base CX0 1 f fd ["imports", "others"] (spEmp 1) := by
  refine F.ok sc_wrong_imports (fun vs H Q E h => ?_) (fun cdv A outer s H vs Q E hr h => ?_)
  · obtain ⟨x, os, rfl, hl, _⟩ := h
    rw [List.length_cons, hl] <;> rfl
  obtain ⟨x, os, rfl, hl, hx, k⟩ := h
  obtain ⟨o, rfl⟩ : ∃ o, os = [o] := by
    match os, hl with
    | [o], _ => exact ⟨o, rfl⟩
  refine ⟨_, (pss_cons (ps_for PassesOwn.never rfl (pi_enumT (by rfl) b_enumerate (pa_cons (pv 0) pa_nil)) (pg_tup rfl (pgs_cons (pg_name (i := 2) sc_wrong_imports.nd rfl (Or.inl rfl)) (pgs_cons (pg_name (i := 3) sc_wrong_imports.nd rfl (Or.inl rfl)) pgs_nil)))
  (pss_one (ps_if (PW.pt (pw_or (pt_cmpR op_notIn_seq (pv 3) (pv 1) (by rfl)) (pw_or1 (pt_cmpR op_in_seq (pv 3) (pe_slice sl_tup (pv 0) po_none (po_some (pv 2))) (by rfl))))) (pss_one (ps_ret (pe_tup (pa_cons (pv 2) pa_nil)))) pss_nil)))
  (pss_one (ps_ret pe_non))), ?_⟩
  cases x with
  | ref a =>
    obtain ⟨xs, ha, _, pa, _⟩ := id hx
    cases pa
    exact ⟨_, rfl, a, [], rfl, st_of ha, for_it (walk_enumT (K := K) (a := a) (xs := [])) (fun i σ' H' => Ex H H') (Ex.refl _) (fun i σ' H' _ e => st_of (e _ _ ha)) (fun i _ _ _ _ hi => absurd hi (Nat.not_lt_zero i)) (fun σ' H' e => k H' e)⟩
  | _ => exact (show False from hx).elim
abbrev s_wrong_accepts : Stmt := top 31
abbrev N_wrong_accepts : List Str := ["accepts", "imports", "events", "index", "item", "earlier"]
theorem sc_wrong_accepts : FnScope N_wrong_accepts ["accepts", "imports", "events"] (defScope s_wrong_accepts) := ⟨rfl, rfl, rfl, by decide +kernel, rfl, by decide +kernel, by decide +kernel⟩
theorem ok_wrong_accepts (T : Txt K mg) (b_enumerate : mg "enumerate" = none) {sp : Sp} {k1 : Nat} (hk : k1 ≤ 9) (D_is_accepts_item : Df P w K mg base k1 "is_accepts_item" ["item", "imports", "events"] sp) {f : Addr} {fd : FuncData} (F : Fun K "wrong_accepts" "wrong_accepts" s_wrong_accepts f fd) : FnOk P w K mg base CX0 10 f fd ["accepts", "imports", "events"] (spEmp 2) := by
  refine F.ok sc_wrong_accepts (fun vs H Q E h => ?_) (fun cdv A outer s H vs Q E hr h => ?_)
  · obtain ⟨x, os, rfl, hl, _⟩ := h
    rw [List.length_cons, hl] <;> rfl
  obtain ⟨x, os, rfl, hl, hx, k⟩ := h
  obtain ⟨o, o', rfl⟩ : ∃ o o', os = [o, o'] := by
    match os, hl with
    | [o, o'], _ => exact ⟨o, o', rfl⟩
  refine ⟨_, (pss_cons (ps_for PassesOwn.never rfl (pi_enumT (by rfl) b_enumerate (pa_cons (pv 0) pa_nil)) (pg_tup rfl (pgs_cons (pg_name (i := 3) sc_wrong_accepts.nd rfl (Or.inl rfl)) (pgs_cons (pg_name (i := 4) sc_wrong_accepts.nd rfl (Or.inl rfl)) pgs_nil)))
  (pss_cons (ps_if (pt_not (pt_val (pe_call D_is_accepts_item.G (hr.mono (by omega)) rfl D_is_accepts_item.m D_is_accepts_item.kp D_is_accepts_item.b .nil pass0 (pa_cons (pv 4) (pa_cons (pv 1) (pa_cons (pv 2) pa_nil)))))) (pss_one (ps_ret (pe_tup (pa_cons (pv 3) pa_nil)))) pss_nil)
  (pss_one (ps_if (pt_cmpR op_in_seq (pe_ix ix_tup (pv 4) pe_int (fun _ _ => rfl)) (pe_lc (own := [("earlier", 5)]) (g := (gName 5)) (tt := tYes) rfl sc_wrong_accepts.nd (pi_tup (pe_slice sl_tup (pv 0) po_none (po_some (pv 3)))) (blkOk_by (own := [("earlier", 5)]) (N := N_wrong_accepts) (sc := defScope s_wrong_accepts) (by decide +kernel)) (fun _ _ _ _ _ => (pg_name (i := 5) sc_wrong_accepts.nd rfl (Or.inl rfl))) (fun _ _ _ _ _ => pts_nil) (fun _ _ _ _ _ => (pe_ix (ix_tupK (K := K) rfl) (pv 5) pe_int (fun _ _ => rfl)))) (by rfl)) (pss_one (ps_ret (pe_tup (pa_cons (pv 3) pa_nil)))) pss_nil))))
  (pss_one (ps_ret pe_non))), ?_⟩
  cases x with
  | ref a =>
    obtain ⟨xs, ha, _, pa, _⟩ := id hx
    cases pa
    exact ⟨_, rfl, a, [], rfl, st_of ha, for_it (walk_enumT (K := K) (a := a) (xs := [])) (fun i σ' H' => Ex H H') (Ex.refl _) (fun i σ' H' _ e => st_of (e _ _ ha)) (fun i _ _ _ _ hi => absurd hi (Nat.not_lt_zero i)) (fun σ' H' e => k H' e)⟩
  | _ => exact (show False from hx).elim
abbrev s_wrong_body : Stmt := top 30
abbrev N_wrong_body : List Str := ["body", "imports", "words", "events", "has_cell", "index", "row"]
theorem sc_wrong_body : FnScope N_wrong_body ["body", "imports", "words", "events"] (defScope s_wrong_body) := ⟨rfl, rfl, rfl, by decide +kernel, rfl, by decide +kernel, by decide +kernel⟩
theorem ok_wrong_body (T : Txt K mg) (b_enumerate : mg "enumerate" = none) {sp sp2 : Sp} {k1 k2 : Nat} (hk : k1 ≤ 9) (hk2 : k2 ≤ 9) (D_is_cell_row : Df P w K mg base k1 "is_cell_row" ["row", "words"] sp) (D_is_linking_row : Df P w K mg base k2 "is_linking_row" ["row", "imports", "events"] sp2) {f : Addr} {fd : FuncData} (F : Fun K "wrong_body" "wrong_body" s_wrong_body f fd) : FnOk P w K mg base CX0 10 f fd ["body", "imports", "words", "events"] (spEmp 3) := by
  refine F.ok sc_wrong_body (fun vs H Q E h => ?_) (fun cdv A outer s H vs Q E hr h => ?_)
  · obtain ⟨x, os, rfl, hl, _⟩ := h
    rw [List.length_cons, hl] <;> rfl
  obtain ⟨x, os, rfl, hl, hx, k⟩ := h
  obtain ⟨o, o', o'', rfl⟩ : ∃ o o' o'', os = [o, o', o''] := by
    match os, hl with
    | [o, o', o''], _ => exact ⟨o, o', o'', rfl⟩
  refine ⟨_, (pss_cons (ps_if (pt_cmpR op_gt (pe_callB call_len_seq (by rfl) T.b_len (by decide +kernel) (pa_cons (pv 0) pa_nil)) pe_int (nomark _)) (pss_one (ps_ret (pe_tup pa_nil))) pss_nil)
  (pss_cons (ps_set (i := 4) sc_wrong_body.nd rfl (Or.inl rfl) pe_bl)
  (pss_cons (ps_for PassesOwn.never rfl (pi_enumT (by rfl) b_enumerate (pa_cons (pv 0) pa_nil)) (pg_tup rfl (pgs_cons (pg_name (i := 5) sc_wrong_body.nd rfl (Or.inl rfl)) (pgs_cons (pg_name (i := 6) sc_wrong_body.nd rfl (Or.inl rfl)) pgs_nil)))
  (pss_one (ps_if (PW.pt (pw_and (pt_val (pe_call D_is_cell_row.G (hr.mono (by omega)) rfl D_is_cell_row.m D_is_cell_row.kp D_is_cell_row.b .nil pass0 (pa_cons (pv 6) (pa_cons (pv 2) pa_nil)))) (pw_and1 (pt_not (pt_truth (pv 4) (fun _ => rfl)))))) (pss_one (ps_set (i := 4) sc_wrong_body.nd rfl (Or.inl rfl) pe_bl)) (pss_one (ps_if (pt_not (pt_val (pe_call D_is_linking_row.G (hr.mono (by omega)) rfl D_is_linking_row.m D_is_linking_row.kp D_is_linking_row.b .nil pass0 (pa_cons (pv 6) (pa_cons (pv 1) (pa_cons (pv 3) pa_nil)))))) (pss_one (ps_ret (pe_tup (pa_cons (pv 5) pa_nil)))) pss_nil)))))
  (pss_one (ps_ret pe_non))))), ?_⟩
  refine q_when (b := false) (et_is (et_test (ev_op (ev_lenD (ev_var rfl) hx) ev_c rv_I0)) rfl) (fun z => Bool.noConfusion z) (fun _ H1 e1 => ?_)
  refine q_asg ev_c fun H2 e2 => ?_
  cases x with
  | ref a =>
    obtain ⟨xs, ha, _, pa, _⟩ := id (hx.ex (e1.trans e2))
    cases pa
    exact ⟨_, rfl, a, [], rfl, st_of ha, for_it (walk_enumT (K := K) (a := a) (xs := [])) (fun i σ' H' => Ex H2 H') (Ex.refl _) (fun i σ' H' _ e => st_of (e _ _ ha)) (fun i _ _ _ _ hi => absurd hi (Nat.not_lt_zero i)) (fun σ' H' e => k H' ((e1.trans e2).trans e))⟩
  | _ => exact (show False from hx).elim
abbrev s_wrong_cleanup : Stmt := top 32
abbrev N_wrong_cleanup : List Str := ["cleanup", "imports", "index", "row"]
theorem sc_wrong_cleanup : FnScope N_wrong_cleanup ["cleanup", "imports"] (defScope s_wrong_cleanup) := ⟨rfl, rfl, rfl, by decide +kernel, rfl, by decide +kernel, by decide +kernel⟩
theorem ok_wrong_cleanup (T : Txt K mg) (b_enumerate : mg "enumerate" = none) {sp : Sp} {k1 : Nat} (hk : k1 ≤ 9) (D_is_cleanup_row : Df P w K mg base k1 "is_cleanup_row" ["row", "imports"] sp) {f : Addr} {fd : FuncData} (F : Fun K "wrong_cleanup" "wrong_cleanup" s_wrong_cleanup f fd) : FnOk P w K mg base CX0 10 f fd ["cleanup", "imports"] (spEmp 1) := by
  refine F.ok sc_wrong_cleanup (fun vs H Q E h => ?_) (fun cdv A outer s H vs Q E hr h => ?_)
  · obtain ⟨x, os, rfl, hl, _⟩ := h
    rw [List.length_cons, hl] <;> rfl
  obtain ⟨x, os, rfl, hl, hx, k⟩ := h
  obtain ⟨o, rfl⟩ : ∃ o, os = [o] := by
    match os, hl with
    | [o], _ => exact ⟨o, rfl⟩
  refine ⟨_, (pss_cons (ps_if (pt_cmpR op_gt (pe_callB call_len_seq (by rfl) T.b_len (by decide +kernel) (pa_cons (pv 0) pa_nil)) pe_int (nomark _)) (pss_one (ps_ret (pe_tup pa_nil))) pss_nil)
  (pss_cons (ps_for PassesOwn.never rfl (pi_enumT (by rfl) b_enumerate (pa_cons (pv 0) pa_nil)) (pg_tup rfl (pgs_cons (pg_name (i := 2) sc_wrong_cleanup.nd rfl (Or.inl rfl)) (pgs_cons (pg_name (i := 3) sc_wrong_cleanup.nd rfl (Or.inl rfl)) pgs_nil)))
  (pss_one (ps_if (pt_not (pt_val (pe_call D_is_cleanup_row.G (hr.mono (by omega)) rfl D_is_cleanup_row.m D_is_cleanup_row.kp D_is_cleanup_row.b .nil pass0 (pa_cons (pv 3) (pa_cons (pv 1) pa_nil))))) (pss_one (ps_ret (pe_tup (pa_cons (pv 2) pa_nil)))) pss_nil)))
  (pss_one (ps_ret pe_non)))), ?_⟩
  refine q_when (b := false) (et_is (et_test (ev_op (ev_lenD (ev_var rfl) hx) ev_c rv_I0)) rfl) (fun z => Bool.noConfusion z) (fun _ H1 e1 => ?_)
  cases x with
  | ref a =>
    obtain ⟨xs, ha, _, pa, _⟩ := id (hx.ex e1)
    cases pa
    exact ⟨_, rfl, a, [], rfl, st_of ha, for_it (walk_enumT (K := K) (a := a) (xs := [])) (fun i σ' H' => Ex H1 H') (Ex.refl _) (fun i σ' H' _ e => st_of (e _ _ ha)) (fun i _ _ _ _ hi => absurd hi (Nat.not_lt_zero i)) (fun σ' H' e => k H' (e1.trans e))⟩
  | _ => exact (show False from hx).elim
def edD : PyData := .tuple [emp, emp, emp, emp]
def edsD : PyData := .tuple [edD]
def modD : PyData := .tuple [.str "m", edsD]
abbrev s_is_module : Stmt := top 27
abbrev N_is_module : List Str := ["item", "earlier"]
theorem sc_is_module : FnScope N_is_module ["item", "earlier"] (defScope s_is_module) := ⟨rfl, rfl, rfl, by decide +kernel, rfl, by decide +kernel, by decide +kernel⟩
def spIsMod : Sp := fun vs H Q _ => ∃ (x : V) (l : Addr), vs = [x, .ref l] ∧ Rp M0 H 4 x modD ∧ H l = some (.lst []) ∧ ∀ H', Ex H H' → Q (.bl true) H'
theorem ok_is_module (T : Txt K mg) (D_is_tuple : Df P w K mg base 1 "is_tuple" ["value", "fewest", "most"] spIsT) (D_is_name : Df P w K mg base 1 "is_name" ["value"] spIsN) {f : Addr} {fd : FuncData} (F : Fun K "is_module" "is_module" s_is_module f fd) : FnOk P w K mg base CX0 2 f fd ["item", "earlier"] spIsMod := by
  refine F.ok sc_is_module (fun vs H Q E h => ?_) (fun cdv A outer s H vs Q E hr h => ?_)
  · obtain ⟨x, l, rfl, _⟩ := h
    rfl
  obtain ⟨x, l, rfl, hx, hl, k⟩ := h
  refine ⟨_, (pss_cons (ps_if (PW.pt (pw_or (pt_not (pt_val (pe_call D_is_tuple.G (hr.mono (by omega)) rfl D_is_tuple.m D_is_tuple.kp D_is_tuple.b .nil pass0 (pa_cons (pv 0) (pa_cons pe_int (pa_cons pe_int pa_nil)))))) (pw_or1 (pt_not (pt_val (pe_call D_is_name.G (hr.mono (by omega)) rfl D_is_name.m D_is_name.kp D_is_name.b .nil pass0 (pa_cons (pe_ix ix_tup (pv 0) pe_int (fun _ _ => rfl)) pa_nil))))))) (pss_one (ps_ret pe_bl)) pss_nil)
  (pss_one (ps_ret (pe_and (pe_cmpR op_ne (pe_ix ix_tup (pv 0) pe_int (fun _ _ => rfl)) pe_str (nomark _)) (pe_and (pe_cmpR op_notIn_seq (pe_ix ix_tup (pv 0) pe_int (fun _ _ => rfl)) (pv 1) (by rfl)) (pe_one (pe_call D_is_tuple.G (hr.mono (by omega)) rfl D_is_tuple.m D_is_tuple.kp D_is_tuple.b .nil pass0 (pa_cons (pe_ix ix_tup (pv 0) pe_int (fun _ _ => rfl)) (pa_cons pe_int (pa_cons pe_int pa_nil)))))))))), ?_⟩
  have len2 : isT 2 2 modD = true := rfl
  have at0 : ∀ {H1 : Hp}, Ex H H1 → Ev (tOp (rIxT K) (tVar 0) (tC (.int 0))) (L2.start N_is_module [x, .ref l]) H1 (.str "m") := fun e => by
    obtain ⟨u, r, g⟩ := ev_ixT (K := K) (i := 0) (ev_var (i := 0) rfl) (hx.ex e) (ev_c (σ := L2.start N_is_module [x, .ref l])) rfl
    rw [r.strv] at g
    exact g
  refine q_when (b := false) (et_is (et_or (et_not (et_B (ev_isT (ev_var rfl) ev_c ev_c hx))) fun _ => et_not (et_B (ev_isN (at0 (Ex.refl H)) (Rp.str (M := M0) (n := 0)) (fun z hz => by cases hz; decide +kernel)))) (by decide +kernel)) (fun z => Bool.noConfusion z) (fun _ H1 e1 => ?_)
  obtain ⟨u, r, g⟩ := ev_ixT (K := K) (i := 1) (ev_var (i := 0) rfl) (hx.ex e1) (ev_c (H := H1) (σ := L2.start N_is_module [x, .ref l])) rfl
  have nin : Ev (tOp (rIn K true) (tOp (rIxT K) (tVar 0) (tC (.int 0))) (tVar 1)) (L2.start N_is_module [x, .ref l]) H1 (.bl true) := ev_op (at0 e1) (ev_var rfl) fun H2 e2 Q' q => ⟨l, [], rfl, .inl (sq_of (e2 _ _ (e1 _ _ hl))), rfl, rfl, q H2 (Ex.refl H2)⟩
  exact s_ret (v := .bl true) (ev_is (ev_andV (ev_op (at0 e1) ev_c (rv_ne rfl)) fun _ => ev_andV nin fun _ => ev_isT g ev_c ev_c r) (by decide +kernel)) fun H2 e2 => k H2 (e1.trans e2)
abbrev s_wrong_edition : Stmt := top 28
abbrev N_wrong_edition : List Str := ["edition", "others", "words", "events", "imports", "body", "accepts", "cleanup", "path", "part"]
theorem sc_wrong_edition : FnScope N_wrong_edition ["edition", "others", "words", "events"] (defScope s_wrong_edition) := ⟨rfl, rfl, rfl, by decide +kernel, rfl, by decide +kernel, by decide +kernel⟩
def spWE : Sp := fun vs H Q _ => ∃ (x o1 o2 o3 : V), vs = [x, o1, o2, o3] ∧ Rp M0 H 2 x edD ∧ ∀ H', Ex H H' → Q .non H'
theorem ok_wrong_edition (T : Txt K mg) (D_is_tuple : Df P w K mg base 1 "is_tuple" ["value", "fewest", "most"] spIsT) (D_wrong_imports : Df P w K mg base 1 "wrong_imports" ["imports", "others"] (spEmp 1)) (D_wrong_body : Df P w K mg base 10 "wrong_body" ["body", "imports", "words", "events"] (spEmp 3))
    (D_wrong_accepts : Df P w K mg base 10 "wrong_accepts" ["accepts", "imports", "events"] (spEmp 2)) (D_wrong_cleanup : Df P w K mg base 10 "wrong_cleanup" ["cleanup", "imports"] (spEmp 1)) {f : Addr} {fd : FuncData} (F : Fun K "wrong_edition" "wrong_edition" s_wrong_edition f fd) :
    FnOk P w K mg base CX0 11 f fd ["edition", "others", "words", "events"] spWE := by
  refine F.ok sc_wrong_edition (fun vs H Q E h => ?_) (fun cdv A outer s H vs Q E hr h => ?_)
  · obtain ⟨x, o1, o2, o3, rfl, _⟩ := h
    rfl
  obtain ⟨x, o1, o2, o3, rfl, hx, k⟩ := h
  refine ⟨_, (pss_cons (ps_if (PW.pt (pw_or (pt_not (pt_val (pe_call D_is_tuple.G (hr.mono (by omega)) rfl D_is_tuple.m D_is_tuple.kp D_is_tuple.b .nil pass0 (pa_cons (pv 0) (pa_cons pe_int (pa_cons pe_int pa_nil)))))) (pw_or1 (pt_not (pt_val (pe_callB (cr_all rfl) (by rfl) T.b_all (by decide +kernel) (pa_cons (pe_lc (own := [("part", 9)]) (g := (gName 9)) (tt := tYes) rfl sc_wrong_edition.nd (pi_tup (pv 0)) (blkOk_by (own := [("part", 9)]) (N := N_wrong_edition) (sc := defScope s_wrong_edition) (by decide +kernel)) (fun _ _ _ _ _ => (pg_name (i := 9) sc_wrong_edition.nd rfl (Or.inl rfl))) (fun _ _ _ _ _ => pts_nil) (fun _ _ _ _ _ => (pe_callB (call_isiK (K := K) rfl) (by rfl) T.b_isinstance (by decide +kernel) (pa_cons (pv 9) (pa_cons (pe_bltn (v := .ty "tuple") (by rfl) T.b_tuple (by decide +kernel) rfl) pa_nil))))) pa_nil))))))) (pss_one (ps_ret (pe_tup pa_nil))) pss_nil)
  (pss_cons (ps_asg (pv 0) (pg_tup rfl (pgs_cons (pg_name (i := 4) sc_wrong_edition.nd rfl (Or.inl rfl)) (pgs_cons (pg_name (i := 5) sc_wrong_edition.nd rfl (Or.inl rfl)) (pgs_cons (pg_name (i := 6) sc_wrong_edition.nd rfl (Or.inl rfl)) (pgs_cons (pg_name (i := 7) sc_wrong_edition.nd rfl (Or.inl rfl)) pgs_nil))))))
  (pss_cons (ps_set (i := 8) sc_wrong_edition.nd rfl (Or.inl rfl) (pe_call D_wrong_imports.G (hr.mono (by omega)) rfl D_wrong_imports.m D_wrong_imports.kp D_wrong_imports.b .nil pass0 (pa_cons (pv 4) (pa_cons (pv 1) pa_nil))))
  (pss_cons (ps_if (pt_cmpR op_notN (pv 8) pe_non (nomark _)) (pss_one (ps_ret (pe_op op_catT (pe_tup (pa_cons pe_int pa_nil)) (pv 8)))) pss_nil)
  (pss_cons (ps_set (i := 8) sc_wrong_edition.nd rfl (Or.inl rfl) (pe_call D_wrong_body.G (hr.mono (by omega)) rfl D_wrong_body.m D_wrong_body.kp D_wrong_body.b .nil pass0 (pa_cons (pv 5) (pa_cons (pv 4) (pa_cons (pv 2) (pa_cons (pv 3) pa_nil))))))
  (pss_cons (ps_if (pt_cmpR op_notN (pv 8) pe_non (nomark _)) (pss_one (ps_ret (pe_op op_catT (pe_tup (pa_cons pe_int pa_nil)) (pv 8)))) pss_nil)
  (pss_cons (ps_set (i := 8) sc_wrong_edition.nd rfl (Or.inl rfl) (pe_call D_wrong_accepts.G (hr.mono (by omega)) rfl D_wrong_accepts.m D_wrong_accepts.kp D_wrong_accepts.b .nil pass0 (pa_cons (pv 6) (pa_cons (pv 4) (pa_cons (pv 3) pa_nil)))))
  (pss_cons (ps_if (pt_cmpR op_notN (pv 8) pe_non (nomark _)) (pss_one (ps_ret (pe_op op_catT (pe_tup (pa_cons pe_int pa_nil)) (pv 8)))) pss_nil)
  (pss_cons (ps_set (i := 8) sc_wrong_edition.nd rfl (Or.inl rfl) (pe_call D_wrong_cleanup.G (hr.mono (by omega)) rfl D_wrong_cleanup.m D_wrong_cleanup.kp D_wrong_cleanup.b .nil pass0 (pa_cons (pv 7) (pa_cons (pv 4) pa_nil))))
  (pss_cons (ps_if (pt_cmpR op_notN (pv 8) pe_non (nomark _)) (pss_one (ps_ret (pe_op op_catT (pe_tup (pa_cons pe_int pa_nil)) (pv 8)))) pss_nil)
  (pss_one (ps_ret pe_non)))))))))))), ?_⟩
  cases x with
  | ref a =>
    obtain ⟨xs, ha, hxl, pa, _⟩ := id hx
    have parts : ∀ (i : Nat) (y : V), xs[i]? = some y → Rp M0 H 1 y emp := fun i y hy => by
      obtain ⟨d, hd, r⟩ := pair_at pa hy
      match i, hd with
      | 0, hd => cases hd; exact r
      | 1, hd => cases hd; exact r
      | 2, hd => cases hd; exact r
      | 3, hd => cases hd; exact r
      | i + 4, hd => simp at hd
    refine q_when (b := false) (et_is (et_or (et_not (et_B (ev_isT (lo := 4) (hi := 4) (ev_var rfl) ev_c ev_c hx))) fun _ => et_not (et_B (all_tup (K := K) ha hxl (ev_var rfl) (fun _ => rfl) fun i y H1 e1 hy => ev_is (ev_isi (ev_var rfl) ((parts i y hy).ex e1) (.inl rfl)) rfl))) (by decide +kernel)) (fun z => Bool.noConfusion z) (fun _ H1 e1 => ?_)
    have four : ∃ p0 p1 p2 p3, xs = [p0, p1, p2, p3] := by
      have hl := pair_len pa
      match xs, hl with
      | [p0, p1, p2, p3], _ => exact ⟨p0, p1, p2, p3, rfl⟩
    obtain ⟨p0, p1, p2, p3, rfl⟩ := four
    refine ⟨_, rfl, a, _, rfl, st_of (e1 _ _ ha), rfl, _, _, rfl, _, _, rfl, _, _, rfl, _, _, rfl, rfl, ?_⟩
    have isn : ∀ {σ : L2.St} {H2 : Hp}, σ[8]? = some (some V.non) → EvT (tTest (tOp (fun x y H Q => y = V.non ∧ Q (V.bl !decide (x = V.non)) H) (tVar 8) (tC V.non))) σ H2 false := fun h => et_is (et_test (ev_op (ev_var h) ev_c fun H3 _ Q q => ⟨rfl, q H3 (Ex.refl H3)⟩)) (by simp)
    refine ⟨_, rfl, _, rfl, p0, [_], rfl, rfl, (parts 0 p0 rfl).ex e1, fun H2 e2 => ?_⟩
    refine q_when (isn rfl) (fun z => Bool.noConfusion z) (fun _ H3 e3 => ?_)
    refine ⟨_, rfl, _, rfl, _, rfl, _, rfl, p1, [_, _, _], rfl, rfl, (parts 1 p1 rfl).ex (e1.trans (e2.trans e3)), fun H4 e4 => ?_⟩
    refine q_when (isn rfl) (fun z => Bool.noConfusion z) (fun _ H5 e5 => ?_)
    refine ⟨_, rfl, _, rfl, _, rfl, p2, [_, _], rfl, rfl, (parts 2 p2 rfl).ex (e1.trans (e2.trans (e3.trans (e4.trans e5)))), fun H6 e6 => ?_⟩
    refine q_when (isn rfl) (fun z => Bool.noConfusion z) (fun _ H7 e7 => ?_)
    refine ⟨_, rfl, _, rfl, p3, [_], rfl, rfl, (parts 3 p3 rfl).ex (e1.trans (e2.trans (e3.trans (e4.trans (e5.trans (e6.trans e7)))))), fun H8 e8 => ?_⟩
    refine q_when (isn rfl) (fun z => Bool.noConfusion z) (fun _ H9 e9 => ?_)
    exact k H9 (e1.trans (e2.trans (e3.trans (e4.trans (e5.trans (e6.trans (e7.trans (e8.trans e9))))))))
  | _ => exact hx.elim
abbrev s_wrong_modules : Stmt := top 26
abbrev N_wrong_modules : List Str := ["value", "words", "events", "index", "item", "editions", "others", "number", "edition", "path", "name", "other", "_", "earlier"]
theorem sc_wrong_modules : FnScope N_wrong_modules ["value", "words", "events"] (defScope s_wrong_modules) := ⟨rfl, rfl, rfl, by decide +kernel, rfl, by decide +kernel, by decide +kernel⟩
def modsD : PyData := .tuple [modD]
def spWM : Sp := fun vs H Q _ => ∃ (x o1 o2 : V), vs = [x, o1, o2] ∧ Rp M0 H 5 x modsD ∧ ∀ H', Ex H H' → Q .non H'
theorem ok_wrong_modules (T : Txt K mg) (b_enumerate : mg "enumerate" = none) (D_is_tuple : Df P w K mg base 1 "is_tuple" ["value", "fewest", "most"] spIsT) (D_is_module : Df P w K mg base 2 "is_module" ["item", "earlier"] spIsMod) (D_wrong_edition : Df P w K mg base 11 "wrong_edition" ["edition", "others", "words", "events"] spWE)
    {f : Addr} {fd : FuncData} (F : Fun K "wrong_modules" "wrong_modules" s_wrong_modules f fd) : FnOk P w K mg base CX0 12 f fd ["value", "words", "events"] spWM := by
  refine F.ok sc_wrong_modules (fun vs H Q E h => ?_) (fun cdv A outer s H vs Q E hr h => ?_)
  · obtain ⟨x, o1, o2, rfl, _⟩ := h
    rfl
  obtain ⟨x, o1, o2, rfl, hx, k⟩ := h
  refine ⟨_, (pss_cons (ps_if (pt_not (pt_val (pe_call D_is_tuple.G (hr.mono (by omega)) rfl D_is_tuple.m D_is_tuple.kp D_is_tuple.b .nil pass0 (pa_cons (pv 0) (pa_cons pe_int (pa_cons pe_int pa_nil)))))) (pss_one (ps_ret (pe_tup pa_nil))) pss_nil)
  (pss_cons (ps_for PassesOwn.never rfl (pi_enumT (by rfl) b_enumerate (pa_cons (pv 0) pa_nil)) (pg_tup rfl (pgs_cons (pg_name (i := 3) sc_wrong_modules.nd rfl (Or.inl rfl)) (pgs_cons (pg_name (i := 4) sc_wrong_modules.nd rfl (Or.inl rfl)) pgs_nil)))
  (pss_one (ps_if (pt_not (pt_val (pe_call D_is_module.G (hr.mono (by omega)) rfl D_is_module.m D_is_module.kp D_is_module.b .nil pass0 (pa_cons (pv 4) (pa_cons (pe_lc (own := [("earlier", 13), ("_", 12)]) (g := (gTup K 2 (gCons (gName 13) (gCons (gName 12) gNil)))) (tt := tYes) rfl sc_wrong_modules.nd (pi_tup (pe_slice sl_tup (pv 0) po_none (po_some (pv 3)))) (blkOk_by (own := [("earlier", 13), ("_", 12)]) (N := N_wrong_modules) (sc := defScope s_wrong_modules) (by decide +kernel)) (fun _ _ _ _ _ => (pg_tup rfl (pgs_cons (pg_name (i := 13) sc_wrong_modules.nd rfl (Or.inl rfl)) (pgs_cons (pg_name (i := 12) sc_wrong_modules.nd rfl (Or.inl rfl)) pgs_nil)))) (fun _ _ _ _ _ => pts_nil) (fun _ _ _ _ _ => (pv 13))) pa_nil))))) (pss_one (ps_ret (pe_tup (pa_cons (pv 3) pa_nil)))) pss_nil)))
  (pss_cons (ps_for PassesOwn.never rfl (pi_enumT (by rfl) b_enumerate (pa_cons (pv 0) pa_nil)) (pg_tup rfl (pgs_cons (pg_name (i := 3) sc_wrong_modules.nd rfl (Or.inl rfl)) (pgs_cons (pg_tup rfl (pgs_cons (pg_name (i := 10) sc_wrong_modules.nd rfl (Or.inr rfl)) (pgs_cons (pg_name (i := 5) sc_wrong_modules.nd rfl (Or.inl rfl)) pgs_nil))) pgs_nil)))
  (pss_cons (ps_setLc (i := 6) (own := [("other", 11), ("_", 12)]) (g := (gTup K 2 (gCons (gName 11) (gCons (gName 12) gNil)))) rfl sc_wrong_modules.nd rfl rfl (sw_true rfl rfl rfl (by decide +kernel)) (pi_tup (pv 0)) (blkOk_by (own := [("other", 11), ("_", 12)]) (N := N_wrong_modules) (sc := defScope s_wrong_modules) (by decide +kernel)) (fun _ _ _ _ _ => (pg_tup rfl (pgs_cons (pg_name (i := 11) sc_wrong_modules.nd rfl (Or.inl rfl)) (pgs_cons (pg_name (i := 12) sc_wrong_modules.nd rfl (Or.inl rfl)) pgs_nil)))) (fun _ _ _ _ _ => (pts_one (pt_cmpR op_ne (pv 11) (pv 10) (nomark _)))) (fun _ _ _ _ _ => (pv 11)))
  (pss_one (ps_for PassesOwn.never rfl (pi_enumT (by rfl) b_enumerate (pa_cons (pv 5) pa_nil)) (pg_tup rfl (pgs_cons (pg_name (i := 7) sc_wrong_modules.nd rfl (Or.inl rfl)) (pgs_cons (pg_name (i := 8) sc_wrong_modules.nd rfl (Or.inl rfl)) pgs_nil)))
  (pss_cons (ps_set (i := 9) sc_wrong_modules.nd rfl (Or.inl rfl) (pe_call D_wrong_edition.G (hr.mono (by omega)) rfl D_wrong_edition.m D_wrong_edition.kp D_wrong_edition.b .nil pass0 (pa_cons (pv 8) (pa_cons (pv 6) (pa_cons (pv 1) (pa_cons (pv 2) pa_nil))))))
  (pss_one (ps_if (pt_cmpR op_notN (pv 9) pe_non (nomark _)) (pss_one (ps_ret (pe_op op_catT (pe_tup (pa_cons (pv 3) (pa_cons (pv 7) pa_nil))) (pv 9)))) pss_nil)))))))
  (pss_one (ps_ret pe_non))))), ?_⟩
  cases x with
  | ref a =>
    refine q_when (b := false) (et_is (et_not (et_B (ev_isT (lo := 1) (hi := 4) (ev_var rfl) ev_c ev_c hx))) rfl) (fun z => Bool.noConfusion z) (fun _ H1 e1 => ?_)
    obtain ⟨xs, ha, hxl, pa, _⟩ := id (hx.ex e1)
    obtain ⟨m0, rfl⟩ : ∃ m0, xs = [m0] := by
      have hl := pair_len pa
      match xs, hl with
      | [m0], _ => exact ⟨m0, rfl⟩
    have rm : Rp M0 H1 4 m0 modD := by
      cases pa with
      | cons r _ => exact r
    refine ⟨_, rfl, a, _, rfl, st_of ha, for_it (walk_enumT (K := K) (a := a) (xs := [m0])) (fun i σ' H' => Ex H1 H' ∧ ∃ x3 x4, σ' = [some (.ref a), some o1, some o2, x3, x4, none, none, none, none, none, none, none, none, none])
      ⟨Ex.refl _, _, _, rfl⟩ (fun i σ' H' _ e => st_of (e.1 _ _ ha)) ?_ ?_⟩
    · rintro i y σ' H2 H3 hil ⟨e12, x3, x4, rfl⟩ ⟨T', u1, u2, rfl, hT', rfl, h1, h2⟩
      have hi0 : i = 0 := Nat.lt_one_iff.mp hil
      subst hi0
      cases h1
      cases h2
      refine ⟨T', _, rfl, st_of upd_same, rfl, _, _, rfl, _, _, rfl, rfl, ?_⟩
      have e13 : Ex H1 (upd H2 T' (.tup [.int ((0 : Nat) : Int), m0])) := e12.trans (Ex.new hT')
      generalize upd H2 T' (.tup [V.int ((0 : Nat) : Int), m0]) = H3 at e13
      show tIfS _ _ tNext _ [some (.ref a), some o1, some o2, some (.int ((0 : Nat) : Int)), some m0, none, none, none, none, none, none, none, none, none] H3
      refine s_when (b := false) (et_is (et_not (et_B (b := true) fun H4 e4 Q' q => ?_)) rfl) (fun z => Bool.noConfusion z) (fun _ H4 e4 => ⟨e13.trans e4, _, _, rfl⟩)
      have e14 := e13.trans e4
      refine ⟨_, rfl, _, rfl, _, rfl, _, rfl, a, _, rfl, st_of (e14 _ _ ha), fun z => ?_, fun p hp => ?_⟩
      · rw [HT.sIx_nat] at z
        simp at z
      · rw [cut_to [m0] (i := 0) (by show 0 < 1; decide)]
        refine ⟨p, rfl, ⟨_, st_of upd_same⟩, fun D hD => lc_it (walk_tup (K := K) (a := p) (xs := [])) (fun i H' => Ex H4 H' ∧ H' D = some (.lst []) ∧ H' p = some (.tup [])) ⟨(Ex.new hp).trans (Ex.new hD), upd_same, Ex.new hD _ _ upd_same⟩ (fun i H' _ z => st_of z.2.2) (fun i _ _ _ hi => absurd hi (Nat.not_lt_zero i)) ?_⟩
        rintro H5 ⟨e5, hD5, _⟩
        exact ⟨m0, D, rfl, rm.ex (e14.trans e5), hD5, fun H6 e6 => q H6 (e5.trans e6)⟩
    · rintro σ' H2 ⟨e12, x3, x4, rfl⟩
      obtain ⟨b, hm0, e0, hb0, r0⟩ : ∃ (b : Addr), m0 = .ref b ∧ ∃ e0, H1 b = some (.tup [.str "m", e0]) ∧ Rp M0 H1 3 e0 edsD := by
        cases m0 with
        | ref b =>
          obtain ⟨ys, hb, _, pb, _⟩ := id rm
          cases pb with
          | @cons u0 _ _ _ r0 pb =>
            cases pb with
            | @cons u1 _ _ _ r1 pb =>
              cases pb
              obtain rfl := r0.strv
              exact ⟨b, rfl, _, hb, r1⟩
        | _ => exact rm.elim
      subst hm0
      obtain ⟨c, ed0, rfl, hc, rd⟩ : ∃ (c : Addr) (ed0 : V), e0 = .ref c ∧ H1 c = some (.tup [ed0]) ∧ Rp M0 H1 2 ed0 edD := by
        cases e0 with
        | ref c =>
          obtain ⟨ys, hc, _, pc, _⟩ := id r0
          cases pc with
          | @cons u0 _ _ _ q0 pc =>
            cases pc
            exact ⟨c, _, rfl, hc, q0⟩
        | _ => exact r0.elim
      have isn : ∀ {σ : L2.St} {H2 : Hp}, σ[9]? = some (some V.non) → EvT (tTest (tOp (fun x y H Q => y = V.non ∧ Q (V.bl !decide (x = V.non)) H) (tVar 9) (tC V.non))) σ H2 false := fun h => et_is (et_test (ev_op (ev_var h) ev_c fun H3 _ Q q => ⟨rfl, q H3 (Ex.refl H3)⟩)) (by simp)
      refine ⟨_, rfl, a, _, rfl, st_of (e12 _ _ ha), for_it (walk_enumT (K := K) (a := a) (xs := [.ref b])) (fun i σ' H' => Ex H1 H' ∧ ∃ x3 x4 x5 x6 x7 x8 x9 x10, σ' = [some (.ref a), some o1, some o2, x3, x4, x5, x6, x7, x8, x9, x10, none, none, none])
        ⟨e12, _, _, _, _, _, _, _, _, rfl⟩ (fun i σ' H' _ e => st_of (e.1 _ _ ha)) ?_ ?_⟩
      · rintro i y σ' H3 H4 hil ⟨e13, x3', x4', x5, x6, x7, x8, x9, x10, rfl⟩ ⟨T', u1, u2, rfl, hT', rfl, h1, h2⟩
        have hi0 : i = 0 := Nat.lt_one_iff.mp hil
        subst hi0
        cases h1
        cases h2
        have e14 : Ex H1 (upd H3 T' (.tup [.int ((0 : Nat) : Int), .ref b])) := e13.trans (Ex.new hT')
        refine ⟨T', _, rfl, st_of upd_same, rfl, _, _, rfl, _, _, rfl, b, _, rfl, st_of (e14 _ _ hb0), rfl, _, _, rfl, _, _, rfl, rfl, rfl, ?_⟩
        generalize upd H3 T' (.tup [V.int ((0 : Nat) : Int), V.ref b]) = H4 at e14
        refine ⟨_, rfl, a, rfl, ⟨_, st_of (e14 _ _ ha)⟩, fun D hD => lc_it (walk_tup (K := K) (a := a) (xs := [.ref b])) (fun i H' => Ex H4 H' ∧ H' D = some (.lst [])) ⟨Ex.new hD, upd_same⟩ (fun i H' _ z => st_of ((e14.trans z.1) _ _ ha)) ?_ ?_⟩
        · rintro i v H5 H6 hi ⟨e5, hD5⟩ ⟨rfl, hv⟩
          have hi0 : i = 0 := Nat.lt_one_iff.mp hi
          subst hi0
          cases hv
          refine ⟨b, _, rfl, st_of ((e14.trans e5) _ _ hb0), rfl, _, _, rfl, _, _, rfl, rfl, rfl, ?_⟩
          refine ⟨_, rfl, _, rfl, rfl, _, rfl, ?_⟩
          exact ite2 (fun z => absurd z (by simp)) (fun _ => ⟨e5, hD5⟩)
        · rintro H5 ⟨e5, hD5⟩
          have e15 := e14.trans e5
          refine ⟨_, rfl, c, _, rfl, st_of (e15 _ _ hc), for_it (walk_enumT (K := K) (a := c) (xs := [ed0])) (fun j σ' H' => Ex H1 H' ∧ ∃ y7 y8 y9, σ' = [some (.ref a), some o1, some o2, some (.int ((0 : Nat) : Int)), x4', some (.ref c), some (.ref D), y7, y8, y9, some (.str "m"), none, none, none])
            ⟨e15, _, _, _, rfl⟩ (fun i σ' H' _ e => st_of (e.1 _ _ hc)) ?_ ?_⟩
          · rintro j y σ' H6 H7 hjl ⟨e16, y7, y8, y9, rfl⟩ ⟨T2, w1, w2, rfl, hT2, rfl, g1, g2⟩
            have hj0 : j = 0 := Nat.lt_one_iff.mp hjl
            subst hj0
            cases g1
            cases g2
            refine ⟨T2, _, rfl, st_of upd_same, rfl, _, _, rfl, _, _, rfl, rfl, ?_⟩
            have e17 : Ex H1 (upd H6 T2 (.tup [.int ((0 : Nat) : Int), ed0])) := e16.trans (Ex.new hT2)
            refine ⟨_, rfl, _, rfl, _, rfl, _, rfl, ed0, _, _, _, rfl, rd.ex e17, fun H8 e8 => ?_⟩
            exact s_when (isn rfl) (fun z => Bool.noConfusion z) (fun _ H9 e9 => ⟨e17.trans (e8.trans e9), _, _, _, rfl⟩)
          · rintro σ' H6 ⟨e16, y7, y8, y9, rfl⟩
            exact ⟨e16, _, _, _, _, _, _, _, _, rfl⟩
      · rintro σ' H3 ⟨e13, x3', x4', x5, x6, x7, x8, x9, x10, rfl⟩
        exact k H3 (e1.trans e13)
  | _ => exact hx.elim
def errG (d e : PyData) : Option (Str × List PyData) := match wn 1 3 d with
  | .tuple p => some ("words", p)
  | _ => (match wn 0 2 e with
    | .tuple p => some ("events", p)
    | _ => none)
def spCP (CI : Addr) : Sp := fun vs H Q E => ∃ (u v m : V) (d e : PyData), vs = [u, v, m, .str "m", .int 5] ∧ Rp M0 H 2 u d ∧ Rp M0 H 2 v e ∧ Rp M0 H 5 m modsD ∧ Lens d ∧ Lens e ∧
  (errG d e = none → ∀ H', Ex H H' → Q .non H') ∧ ∀ z p, errG d e = some (z, p) → ∀ dd H', Ex H H' → Flying ["part", "path"] [.str z, .tuple p] dd H' → E (.ref CI) dd H'
abbrev s_check_parts : Stmt := top 24
abbrev N_check_parts : List Str := ["words", "events", "modules", "top", "most", "path", "name", "_"]
theorem sc_check_parts : FnScope N_check_parts ["words", "events", "modules", "top", "most"] (defScope s_check_parts) := ⟨rfl, rfl, rfl, by decide +kernel, rfl, by decide +kernel, by decide +kernel⟩
theorem wn_ok {M : Addr → Prop} {H : Hp} {n : Nat} {v : V} {lo hi : Int} {d : PyData} {p : List PyData} (r : Rp M H (n + 1) v d) (h : wn lo hi d = .tuple p) : okK 3 (.tuple p) := by
  unfold wn at h
  split at h
  · cases d with
    | tuple ds =>
      dsimp only at h
      cases hf : firstBad ds with
      | none =>
        rw [hf] at h
        cases h
      | some i =>
        rw [hf] at h
        cases h
        have hi : i < ds.length := by
          unfold firstBad at hf
          exact List.mem_range.mp (List.mem_of_find?_eq_some hf)
        have hl : ds.length ≤ 1000 := by
          cases v with
          | ref a =>
            obtain ⟨xs, _, hl, pa, _⟩ := r
            rw [← pair_len pa]
            exact hl
          | _ => exact (show False from r).elim
        exact ⟨by show 1 ≤ 100; decide, [(i : Int)], rfl, fun y hy => by
          have e : y = (i : Int) := by simpa using hy
          rw [e]
          exact Nat.lt_trans (PySem.Flt.log2_lt_of (by decide) (Nat.lt_of_le_of_lt (by omega : ((i : Int)).natAbs ≤ 1000) (by decide : 1000 < 2 ^ 10))) (by decide)⟩
    | _ => cases h; exact ⟨Nat.zero_le _, [], rfl, fun y hy => absurd hy List.not_mem_nil⟩
  · cases h
    exact ⟨Nat.zero_le _, [], rfl, fun y hy => absurd hy List.not_mem_nil⟩
theorem wn_two (lo hi : Int) (d : PyData) : wn lo hi d = .none ∨ ∃ ds, wn lo hi d = .tuple ds := by
  unfold wn
  split
  · split
    · split
      · exact .inr ⟨_, rfl⟩
      · exact .inl rfl
    · exact .inr ⟨_, rfl⟩
  · exact .inr ⟨_, rfl⟩
theorem evp_wnP {σ : L2.St} {H : Hp} {i : Nat} {lo hi : Int} {v : V} {d : PyData} (hs : σ[i]? = some (some v)) (r : Rp M0 H 2 v d) (hl : Lens d) : EvP (tCall spWN [] E0 (tCons (tVar i) (tCons (tC (.int lo)) (tCons (tC (.int hi)) tNil)))) σ H (Da 1 (wn lo hi d)) := fun H1 e Q q =>
  ⟨_, hs, v, 1, d, lo, hi, rfl, r.ex e, hl, fun u H2 e2 r2 => q u H2 e2 r2⟩
theorem et_nn {σ : L2.St} {H : Hp} {i : Nat} {v : V} (h : σ[i]? = some (some v)) : EvT (tTest (tOp (fun x y H Q => y = V.non ∧ Q (V.bl !decide (x = V.non)) H) (tVar i) (tC V.non))) σ H (!decide (v = .non)) := et_test (ev_op (ev_var h) ev_c fun H3 _ Q q => ⟨rfl, q H3 (Ex.refl H3)⟩)
theorem ok_check_parts (T : Txt K mg) {CI S : Addr} (X_InvalidGraph : XD P w K mg base 1 "InvalidGraph" CI S ["self", "part", "path"] (spX CI ["part", "path"] [1, 3])) (D_wrong_names : Df P w K mg base 2 "wrong_names" ["value", "fewest", "most"] spWN)
    (D_wrong_modules : Df P w K mg base 12 "wrong_modules" ["value", "words", "events"] spWM) (D_is_index : Df P w K mg base 2 "is_index" ["value", "many"] spIsIx) {f : Addr} {fd : FuncData} (F : Fun K "check_parts" "check_parts" s_check_parts f fd) :
    FnOk P w K mg base (L2.CX P w) 13 f fd ["words", "events", "modules", "top", "most"] (spCP CI) := by
  refine F.okX sc_check_parts (fun vs H Q E h => ?_) (fun cdv A outer s H vs Q E hr h => ?_)
  · obtain ⟨u, v, m, d, e, rfl, _⟩ := h
    rfl
  obtain ⟨u, v, m, d, e, rfl, hu, hv, hm, ld, le, k, kx⟩ := h
  refine ⟨_, (pss_cons (ps_set (i := 5) sc_check_parts.nd rfl (Or.inl rfl) (pe_call D_wrong_names.G (hr.mono (by omega)) rfl D_wrong_names.m D_wrong_names.kp D_wrong_names.b .nil pass0 (pa_cons (pv 0) (pa_cons pe_int (pa_cons pe_int pa_nil)))))
  (pss_cons (ps_if (pt_cmpR op_notN (pv 5) pe_non (nomark _)) (pss_one (ps_raise rfl (takes_of rfl rfl rfl rfl) (pmk_oex X_InvalidGraph.T X_InvalidGraph.iC X_InvalidGraph.tI X_InvalidGraph.G (hr.mono (by omega)) X_InvalidGraph.b .nil pass0 (by rfl) X_InvalidGraph.gC (by exact (pa_cons pe_str (pa_cons (pv 5) pa_nil)))))) pss_nil)
  (pss_cons (ps_set (i := 5) sc_check_parts.nd rfl (Or.inl rfl) (pe_call D_wrong_names.G (hr.mono (by omega)) rfl D_wrong_names.m D_wrong_names.kp D_wrong_names.b .nil pass0 (pa_cons (pv 1) (pa_cons pe_int (pa_cons pe_int pa_nil)))))
  (pss_cons (ps_if (pt_cmpR op_notN (pv 5) pe_non (nomark _)) (pss_one (ps_raise rfl (takes_of rfl rfl rfl rfl) (pmk_oex X_InvalidGraph.T X_InvalidGraph.iC X_InvalidGraph.tI X_InvalidGraph.G (hr.mono (by omega)) X_InvalidGraph.b .nil pass0 (by rfl) X_InvalidGraph.gC (by exact (pa_cons pe_str (pa_cons (pv 5) pa_nil)))))) pss_nil)
  (pss_cons (ps_set (i := 5) sc_check_parts.nd rfl (Or.inl rfl) (pe_call D_wrong_modules.G (hr.mono (by omega)) rfl D_wrong_modules.m D_wrong_modules.kp D_wrong_modules.b .nil pass0 (pa_cons (pv 2) (pa_cons (pv 0) (pa_cons (pv 1) pa_nil)))))
  (pss_cons (ps_if (pt_cmpR op_notN (pv 5) pe_non (nomark _)) (pss_one (ps_raise rfl (takes_of rfl rfl rfl rfl) (pmk_oex X_InvalidGraph.T X_InvalidGraph.iC X_InvalidGraph.tI X_InvalidGraph.G (hr.mono (by omega)) X_InvalidGraph.b .nil pass0 (by rfl) X_InvalidGraph.gC (by exact (pa_cons pe_str (pa_cons (pv 5) pa_nil)))))) pss_nil)
  (pss_cons (ps_if (pt_cmpR op_notIn_seq (pv 3) (pe_lc (own := [("name", 6), ("_", 7)]) (g := (gTup K 2 (gCons (gName 6) (gCons (gName 7) gNil)))) (tt := tYes) rfl sc_check_parts.nd (pi_tup (pv 2)) (blkOk_by (own := [("name", 6), ("_", 7)]) (N := N_check_parts) (sc := defScope s_check_parts) (by decide +kernel)) (fun _ _ _ _ _ => (pg_tup rfl (pgs_cons (pg_name (i := 6) sc_check_parts.nd rfl (Or.inl rfl)) (pgs_cons (pg_name (i := 7) sc_check_parts.nd rfl (Or.inl rfl)) pgs_nil)))) (fun _ _ _ _ _ => pts_nil) (fun _ _ _ _ _ => (pv 6))) (by rfl)) (pss_one (ps_raise rfl (takes_of rfl rfl rfl rfl) (pmk_oex X_InvalidGraph.T X_InvalidGraph.iC X_InvalidGraph.tI X_InvalidGraph.G (hr.mono (by omega)) X_InvalidGraph.b .nil pass0 (by rfl) X_InvalidGraph.gC (by exact (pa_cons pe_str (pa_cons (pe_tup pa_nil) pa_nil)))))) pss_nil)
  (pss_one (ps_if (PW.pt (pw_or (pt_not (pt_val (pe_call D_is_index.G (hr.mono (by omega)) rfl D_is_index.m D_is_index.kp D_is_index.b .nil pass0 (pa_cons (pv 4) (pa_cons pe_int pa_nil))))) (pw_or1 (pt_cmpR op_lt (pv 4) pe_int (nomark _))))) (pss_one (ps_raise rfl (takes_of rfl rfl rfl rfl) (pmk_oex X_InvalidGraph.T X_InvalidGraph.iC X_InvalidGraph.tI X_InvalidGraph.G (hr.mono (by omega)) X_InvalidGraph.b .nil pass0 (by rfl) X_InvalidGraph.gC (by exact (pa_cons pe_str (pa_cons (pe_tup pa_nil) pa_nil)))))) pss_nil))))))))), ?_⟩
  refine q_asgP (evp_wnP (i := 0) rfl hu ld) fun b1 H1 e1 rb1 => ?_
  have rb1 : Rp M0 H1 1 b1 (wn 1 3 d) := rb1
  rcases wn_two 1 3 d with h1 | ⟨p, h1⟩
  rotate_left
  · rw [h1] at rb1
    have hb : b1 ≠ .non := fun z => by
      rw [z] at rb1
      exact rb1.elim
    refine q_when (b := true) (et_is (et_nn rfl) (by simp [hb])) (fun _ H2 e2 => ?_) (fun z => Bool.noConfusion z)
    exact mk_fly (ds := [.str "words", .tuple p]) (eap_cons evp_str (Da.mono _ _) (eap_cons (evp_var rfl (rb1.ex e2) (Da.mono _ _)) (Da.mono _ _) eap_nil)) (.cons (by show ("words" : Str).length ≤ 100; decide +kernel) (.cons (wn_ok hu h1) .nil)) rfl (by show 2 ≤ 9; decide) fun dd H3 e3 fly => kx "words" p (by unfold errG; rw [h1]) dd H3 ((e1.trans e2).trans e3) fly
  rw [h1] at rb1
  have hb : b1 = .non := by
    cases b1 <;> first | rfl | exact rb1.elim
  subst hb
  refine q_when (b := false) (et_is (et_nn rfl) (by simp)) (fun z => Bool.noConfusion z) (fun _ H2 e2 => ?_)
  have e02 := e1.trans e2
  refine q_asgP (evp_wnP (i := 1) rfl (hv.ex e02) le) fun b2 H3 e3 rb2 => ?_
  have rb2 : Rp M0 H3 1 b2 (wn 0 2 e) := rb2
  rcases wn_two 0 2 e with h2 | ⟨p, h2⟩
  rotate_left
  · rw [h2] at rb2
    have hb : b2 ≠ .non := fun z => by
      rw [z] at rb2
      exact rb2.elim
    refine q_when (b := true) (et_is (et_nn rfl) (by simp [hb])) (fun _ H4 e4 => ?_) (fun z => Bool.noConfusion z)
    exact mk_fly (ds := [.str "events", .tuple p]) (eap_cons evp_str (Da.mono _ _) (eap_cons (evp_var rfl (rb2.ex e4) (Da.mono _ _)) (Da.mono _ _) eap_nil)) (.cons (by show ("events" : Str).length ≤ 100; decide +kernel) (.cons (wn_ok hv h2) .nil)) rfl (by show 2 ≤ 9; decide) fun dd H5 e5 fly => kx "events" p (by unfold errG; rw [h1, h2]) dd H5 (e02.trans (e3.trans (e4.trans e5))) fly
  rw [h2] at rb2
  have hb : b2 = .non := by
    cases b2 <;> first | rfl | exact rb2.elim
  subst hb
  refine q_when (b := false) (et_is (et_nn rfl) (by simp)) (fun z => Bool.noConfusion z) (fun _ H4 e4 => ?_)
  have e04 := e02.trans (e3.trans e4)
  refine seq_asg ⟨_, rfl, _, rfl, _, rfl, m, _, _, rfl, hm.ex e04, fun H5 e5 => ?_⟩
  refine q_when (b := false) (et_is (et_nn (i := 5) (v := .non) rfl) (by simp)) (fun z => Bool.noConfusion z) (fun _ H6 e6 => ?_)
  have e06 := e04.trans (e5.trans e6)
  have hm6 := hm.ex e06
  have hn : errG d e = none := by
    unfold errG
    rw [h1, h2]
  refine q_when (b := false) (fun H7 e7 Q' q => ?_) (fun z => Bool.noConfusion z) (fun _ H8 e8 => ?_)
  · cases m with
    | ref a =>
      obtain ⟨xs, ha, hxl, pa, _⟩ := id (hm6.ex e7)
      cases pa with
      | @cons m0 _ _ _ rm pa =>
        cases pa
        cases m0 with
        | ref b =>
          obtain ⟨ys, hb, _, pb, _⟩ := id rm
          cases pb with
          | @cons u0 _ _ _ r0 pb =>
            cases pb with
            | @cons u1 _ _ _ r1 pb =>
              cases pb
              obtain rfl := r0.strv
              refine ⟨_, rfl, _, rfl, a, rfl, ⟨_, st_of ha⟩, fun D hD => lc_it (walk_tup (K := K) (a := a) (xs := [.ref b])) (fun i H' => Ex H7 H' ∧ H' D = some (.lst (if i = 0 then [] else [.str "m"]))) ⟨Ex.new hD, upd_same⟩ (fun i H' _ z => st_of (z.1 _ _ ha)) ?_ ?_⟩
              · rintro i v' H8 H9 hi ⟨e8, hD8⟩ ⟨rfl, hv'⟩
                have hi0 : i = 0 := Nat.lt_one_iff.mp hi
                subst hi0
                cases hv'
                refine ⟨b, _, rfl, st_of (e8 _ _ hb), rfl, _, _, rfl, _, _, rfl, rfl, rfl, yes_if ?_⟩
                exact ⟨_, rfl, _, hD8, (by show 0 < sizeLine; decide), e8.mut hD, upd_same⟩
              · rintro H8 ⟨e8, hD8⟩
                exact ⟨D, [.str "m"], rfl, .inl (sq_of hD8), rfl, rfl, false, congrArg V.bl (by decide +kernel), q H8 e8⟩
        | _ => exact rm.elim
    | _ => exact hm.elim
  · refine s_when (b := false) (et_is (et_or (et_not (et_B (b := decide ((0 : Int) ≤ 5) && decide ((5 : Int) < 9)) fun H9 e9 Q' q => ⟨_, rfl, 5, 9, rfl, fun H10 e10 => q H10 e10⟩)) fun _ => et_test (ev_op (ev_var rfl) ev_c rv_I0)) (by decide)) (fun z => Bool.noConfusion z) (fun _ H9 e9 => k hn H9 (e06.trans (e8.trans e9)))
end
end My
set_option Elab.async false
set_option linter.all false
set_option maxRecDepth 100000
set_option maxHeartbeats 4000000
namespace My
open PySem PySem.Spec PyProof.Rows L2 Evl Cm
section
variable {P : Program} {w : World} {K : PySem.W.Frag} {mg : Str → Option Value} {base : Heap}
def dueG (d e : PyData) : PyData := match wn 1 3 d with
  | .none => (match wn 0 2 e with
    | .none => .tuple [.str "told", d, e]
    | p => .tuple [.str "refused", .str "events", p])
  | p => .tuple [.str "refused", .str "words", p]
def spAsk : Sp := fun vs H Q _ => ∃ (u v : V) (d e : PyData), vs = [u, v] ∧ Rp M0 H 2 u d ∧ Rp M0 H 2 v e ∧ Drawn d ∧ Drawn e ∧ ∀ r H', Ex H H' → Rp M0 H' 3 r (dueG d e) → Q r H'
theorem wn_kind (lo hi : Int) (d : PyData) : wn lo hi d = .none ∨ ∃ ds, wn lo hi d = .tuple ds := by
  unfold wn
  split
  · split
    · split
      · exact .inr ⟨_, rfl⟩
      · exact .inl rfl
    · exact .inr ⟨_, rfl⟩
  · exact .inr ⟨_, rfl⟩
theorem drawn_lens {d : PyData} (h : Drawn d) : Lens d := by
  obtain ⟨ds, rfl | rfl, _, hk⟩ := h
  · trivial
  · exact fun z hz => Nat.le_trans (hk _ hz z rfl) (by decide)
theorem da_le {M : Addr → Prop} {H : Hp} {n m : Nat} (h : n ≤ m) {v : V} {d : PyData} (r : Rp M H n v d) : Rp M H m v d := by
  induction h with
  | refl => exact r
  | step _ ih => exact ih.up
abbrev s_law : Stmt := top 52
abbrev N_law : List Str := ["_law_script", "_law_pool_here", "_law_words", "_law_events", "_law_bad_words", "_law_bad_events", "_law_due_here"]
theorem sc_law : FnScope N_law ["_law_script"] (defScope s_law) := ⟨rfl, rfl, rfl, by decide +kernel, rfl, by decide +kernel, by decide +kernel⟩
def spLaw (K : PySem.W.Frag) : Sp := fun vs H Q _ => ∃ (a : Addr) (ns : List Int), vs = [.ref a] ∧ SqL K H a (ns.map V.int) ∧ ns.length ≤ 63 ∧ ∀ H', Q (.bl true) H'
theorem evp_wn {σ : L2.St} {H : Hp} {i : Nat} {lo hi : Int} {v : V} {d : PyData} (hs : σ[i]? = some (some v)) (r : Rp M0 H 2 v d) (hl : Lens d) : EvP (tCall spWN [] E0 (tCons (tVar i) (tCons (tC (.int lo)) (tCons (tC (.int hi)) tNil)))) σ H (Da 1 (wn lo hi d)) := fun H1 e Q q =>
  ⟨_, hs, v, 1, d, lo, hi, rfl, r.ex e, hl, fun u H2 e2 r2 => q u H2 e2 r2⟩
theorem ok_law (T : Txt K mg) (D__law_pool : Df P w K mg base 1 "_law_pool" ["_law_script"] (spPool K)) (D__law_value : Df P w K mg base 4 "_law_value" ["_law_pool_here", "_law_most_names"] spValue) (D__law_due : Df P w K mg base 2 "_law_due" ["_law_value_here", "_law_least", "_law_greatest"] spWN)
    (D__law_asked : Df P w K mg base 20 "_law_asked" ["_law_words", "_law_events"] spAsk) (D__law_same : Df P w K mg base 4 "_law_same" ["_law_a", "_law_b"] (spS 4)) {f : Addr} {fd : FuncData} (F : Fun K "law" "law" s_law f fd) : FnOk P w K mg base CX0 21 f fd ["_law_script"] (spLaw K) := by
  refine F.ok sc_law (fun vs H Q E h => ?_) (fun cdv A outer s H vs Q E hr h => ?_)
  · obtain ⟨a, ns, rfl, _⟩ := h
    rfl
  obtain ⟨a, ns, rfl, hS, h63, k⟩ := h
  refine ⟨_, (pss_cons (ps_set (i := 1) sc_law.nd rfl (Or.inl rfl) (pe_call D__law_pool.G (hr.mono (by omega)) rfl D__law_pool.m D__law_pool.kp D__law_pool.b .nil pass0 (pa_cons (pv 0) pa_nil)))
  (pss_cons (ps_set (i := 2) sc_law.nd rfl (Or.inl rfl) (pe_call D__law_value.G (hr.mono (by omega)) rfl D__law_value.m D__law_value.kp D__law_value.b .nil pass0 (pa_cons (pv 1) (pa_cons pe_int pa_nil))))
  (pss_cons (ps_set (i := 3) sc_law.nd rfl (Or.inl rfl) (pe_call D__law_value.G (hr.mono (by omega)) rfl D__law_value.m D__law_value.kp D__law_value.b .nil pass0 (pa_cons (pv 1) (pa_cons pe_int pa_nil))))
  (pss_cons (ps_set (i := 4) sc_law.nd rfl (Or.inl rfl) (pe_call D__law_due.G (hr.mono (by omega)) rfl D__law_due.m D__law_due.kp D__law_due.b .nil pass0 (pa_cons (pv 2) (pa_cons pe_int (pa_cons pe_int pa_nil)))))
  (pss_cons (ps_set (i := 5) sc_law.nd rfl (Or.inl rfl) (pe_call D__law_due.G (hr.mono (by omega)) rfl D__law_due.m D__law_due.kp D__law_due.b .nil pass0 (pa_cons (pv 3) (pa_cons pe_int (pa_cons pe_int pa_nil)))))
  (pss_cons (ps_set (i := 6) sc_law.nd rfl (Or.inl rfl) (pe_tup (pa_cons pe_str (pa_cons (pv 2) (pa_cons (pv 3) pa_nil)))))
  (pss_cut (ps_if (pt_cmpR op_notN (pv 4) pe_non (nomark _)) (pss_one (ps_set (i := 6) sc_law.nd rfl (Or.inl rfl) (pe_tup (pa_cons pe_str (pa_cons pe_str (pa_cons (pv 4) pa_nil)))))) (pss_one (ps_if (pt_cmpR op_notN (pv 5) pe_non (nomark _)) (pss_one (ps_set (i := 6) sc_law.nd rfl (Or.inl rfl) (pe_tup (pa_cons pe_str (pa_cons pe_str (pa_cons (pv 5) pa_nil)))))) pss_nil)))
  (pss_one (ps_ret (pe_call D__law_same.G (hr.mono (by omega)) rfl D__law_same.m D__law_same.kp D__law_same.b .nil pass0 (pa_cons (pe_call D__law_asked.G (hr.mono (by omega)) rfl D__law_asked.m D__law_asked.kp D__law_asked.b .nil pass0 (pa_cons (pv 2) (pa_cons (pv 3) pa_nil))) (pa_cons (pv 6) pa_nil)))))))))))), ?_⟩
  refine ⟨_, rfl, a, ns, rfl, hS, h63, fun p H1 e1 n1 P1' => ?_⟩
  have P0 : PoolAt M0 H1 p := P1'.weak fun _ z => z.elim
  have P1 : PoolAt (fun a => a = p) H1 p := by
    obtain ⟨g, s, gs, ss, cur, cnt, P⟩ := P0
    exact ⟨g, s, gs, ss, cur, cnt, P.obj, P.great, P.small, P.gpos, P.srng, P.cur0, P.cnt0, P.ng, P.ns⟩
  have L1 : Live (fun a => a = p) H1 := fun a z q => by
    obtain ⟨o, ho⟩ := P0.some
    rw [z, ho] at q
    cases q
  refine ⟨_, rfl, fun a => a = p, p, 3, rfl, by decide, by decide, L1, rfl, P1, fun v d H2 hd s2 P2 L2' rv => ?_⟩
  refine ⟨_, rfl, fun a => a = p, p, 2, rfl, by decide, by decide, L2', rfl, P2, fun u e H3 he s3 P3 L3 ru => ?_⟩
  have rv3 : Rp M0 H3 2 v d := (rv.exM (fun _ z => z) (exM_of (M := fun a => a = p) s3 rfl)).w0
  have ru3 : Rp M0 H3 2 u e := ru.w0
  refine q_asgP (evp_wn (i := 2) rfl rv3 (drawn_lens hd)) fun b1 H4 e4 rb1 => ?_
  refine q_asgP (evp_wn (i := 3) rfl (ru3.ex e4) (drawn_lens he)) fun b2 H5 e5 rb2 => ?_
  have rb1 : Rp M0 H5 1 b1 (wn 1 3 d) := Rp.ex e5 rb1
  have rb2 : Rp M0 H5 1 b2 (wn 0 2 e) := rb2
  have rv5 := rv3.ex (e4.trans e5)
  have ru5 := ru3.ex (e4.trans e5)
  refine q_asgP (A := Da 3 (.tuple [.str "told", d, e])) (evp_tup (n := 2) (ds := [.str "told", d, e]) (eap_cons evp_str (Da.mono _ _) (eap_cons (evp_var rfl rv5 (Da.mono _ _)) (Da.mono _ _) (eap_cons (evp_var rfl ru5 (Da.mono _ _)) (Da.mono _ _) eap_nil))) (by show 3 ≤ 1000; decide)) fun x6 H6 e6 r6 => ?_
  have r6 : Rp M0 H6 3 x6 (.tuple [.str "told", d, e]) := r6
  refine q_cut (M := fun σ' H' => ∃ x, σ' = [some (.ref a), some (.ref p), some v, some u, some b1, some b2, some x] ∧ Rp M0 H' 3 x (dueG d e) ∧ Ex H6 H') ?_ ?_
  · have tagged : ∀ {σ : L2.St} {b : V} {i : Nat} {z : Str} {ds : List PyData} {D : Ends} {n : Nat}, σ[i]? = some (some b) → Rp M0 H5 1 b (.tuple ds) → (∀ x H', Ex H6 H' → Rp M0 H' 3 x (.tuple [.str "refused", .str z, .tuple ds]) → D.nx (σ.set n (some x)) H') → tAsg (tTup (tCons (tC (.str "refused")) (tCons (tC (.str z)) (tCons (tVar i) tNil)))) (gName n) D σ H6 := fun hs r q =>
      (evp_tup (n := 2) (ds := [.str "refused", .str _, .tuple _]) (eap_cons evp_str (Da.mono _ _) (eap_cons evp_str (Da.mono _ _) (eap_cons (evp_var hs (da_le (n := 1) (m := 2) (by decide) (r.ex e6)) (Da.mono _ _)) (Da.mono _ _) eap_nil))) (by show 3 ≤ 1000; decide)) H6 (Ex.refl _) _ fun x H' e' r' => q x H' e' r'
    rcases wn_kind 1 3 d with h1 | ⟨ds, h1⟩
    · have hb1 : b1 = .non := by
        rw [h1] at rb1
        cases b1 <;> first | rfl | exact rb1.elim
      subst hb1
      refine ⟨_, rfl, rfl, _, rfl, ?_⟩
      refine ite2 (fun z => absurd z (by simp)) (fun _ => ?_)
      rcases wn_kind 0 2 e with h2 | ⟨es, h2⟩
      · have hb2 : b2 = .non := by
          rw [h2] at rb2
          cases b2 <;> first | rfl | exact rb2.elim
        subst hb2
        refine ⟨_, rfl, rfl, _, rfl, ?_⟩
        refine ite2 (fun z => absurd z (by simp)) (fun _ => ?_)
        refine ⟨x6, rfl, ?_, Ex.refl _⟩
        unfold dueG
        rw [h1, h2]
        exact r6
      · have hb2 : b2 ≠ .non := fun z => by
          rw [h2, z] at rb2
          exact rb2.elim
        refine ⟨_, rfl, rfl, _, rfl, ?_⟩
        refine ite2 (fun _ => ?_) (fun z => absurd z (by simp [hb2]))
        refine tagged (i := 5) rfl (by rw [← h2]; exact rb2) fun x H' e' r' => ⟨x, rfl, ?_, e'⟩
        unfold dueG
        rw [h1, h2]
        exact r'
    · have hb1 : b1 ≠ .non := fun z => by
        rw [h1, z] at rb1
        exact rb1.elim
      refine ⟨_, rfl, rfl, _, rfl, ?_⟩
      refine ite2 (fun _ => ?_) (fun z => absurd z (by simp [hb1]))
      refine tagged (i := 4) rfl (by rw [← h1]; exact rb1) fun x H' e' r' => ⟨x, rfl, ?_, e'⟩
      unfold dueG
      rw [h1]
      exact r'
  · rintro σ' H7 ⟨x, rfl, r7, e7⟩
    refine ⟨_, rfl, _, rfl, v, u, d, e, rfl, rv5.ex (e6.trans e7), ru5.ex (e6.trans e7), hd, he, fun r H8 e8 r8 => ?_⟩
    exact ⟨_, rfl, r, x, dueG d e, rfl, r8, r7.ex e8, fun H9 _ => k H9⟩
def spG (CG CI : Addr) : Sp := fun vs H Q E => ∃ (x dx : Addr) (u v m : V) (d e : PyData), vs = [.ref x, u, v, m, .str "m", .int 5] ∧ H x = some (.ins CG dx []) ∧ H dx = some (.own x) ∧ Rp M0 H 2 u d ∧ Rp M0 H 2 v e ∧ Rp M0 H 5 m modsD ∧ Drawn d ∧ Drawn e ∧
  (errG d e = none → ∀ H' fs, (∀ b o, b ≠ x → b ≠ dx → H b = some o → H' b = some o) → H' x = some (.ins CG dx fs) → fs.lookup ("words" : Str) = some u → fs.lookup ("events" : Str) = some v → Q .non H') ∧
  (∀ z p, errG d e = some (z, p) → ∀ dd H', (∀ b o, b ≠ x → b ≠ dx → H b = some o → H' b = some o) → Flying ["part", "path"] [.str z, .tuple p] dd H' → E (.ref CI) dd H')
/-- the class Graph -/
structure GraphC (P : Program) (w : World) (K : PySem.W.Frag) (mg : Str → Option Value) (base : Heap) (k : Nat) (CG CI : Addr) (g : List Value → List Value → List Value) where
  fI : Addr
  fd : FuncData
  M : Mk K CG fI
  G : FnOk P w K mg base (L2.CX P w) k fI fd ["self", "words", "events", "modules", "top", "most"] (spG CG CI)
  b : KBn K fd ["self", "words", "events", "modules", "top", "most"] 5 [] g (fun vs _ => vs ++ [.int 5])
  gC : mg "Graph" = some (.ref CG)
  cl : Cls K CG
  nw : NoAttr K CG "words"
  ne : NoAttr K CG "events"
theorem due_none {d e : PyData} (h : errG d e = none) : dueG d e = .tuple [.str "told", d, e] := by
  unfold errG at h
  unfold dueG
  rcases wn_kind 1 3 d with h1 | ⟨ds, h1⟩
  · rw [h1] at h ⊢
    rcases wn_kind 0 2 e with h2 | ⟨es, h2⟩
    · rw [h2]
    · rw [h2] at h
      cases h
  · rw [h1] at h
    cases h
theorem due_some {d e : PyData} {z : Str} {p : List PyData} (h : errG d e = some (z, p)) : dueG d e = .tuple [.str "refused", .str z, .tuple p] := by
  unfold errG at h
  unfold dueG
  rcases wn_kind 1 3 d with h1 | ⟨ds, h1⟩
  · rw [h1] at h ⊢
    rcases wn_kind 0 2 e with h2 | ⟨es, h2⟩
    · rw [h2] at h
      cases h
    · rw [h2] at h ⊢
      cases h
      rfl
  · rw [h1] at h ⊢
    cases h
    rfl
abbrev s__law_asked : Stmt := top 51
abbrev N__law_asked : List Str := ["_law_words", "_law_events", "_law_graph", "_law_found", "e"]
theorem sc__law_asked : FnScope N__law_asked ["_law_words", "_law_events"] (defScope s__law_asked) := ⟨rfl, rfl, rfl, by decide +kernel, rfl, by decide +kernel, by decide +kernel⟩
theorem ok_asked (T : Txt K mg) {CG CI S : Addr} {g : List Value → List Value → List Value} (GD : GraphC P w K mg base 18 CG CI g) (xI : XC K CI S) (g_InvalidGraph : mg "InvalidGraph" = some (.ref CI)) (n_part : PySem.W.findIn K (.ref CI) "part" = some none) (n_path : PySem.W.findIn K (.ref CI) "path" = some none)
    {f : Addr} {fd : FuncData} (F : Fun K "_law_asked" "_law_asked" s__law_asked f fd) : FnOk P w K mg base CX0 20 f fd ["_law_words", "_law_events"] spAsk := by
  refine F.ok sc__law_asked (fun vs H Q E h => ?_) (fun cdv A outer s H vs Q E hr h => ?_)
  · obtain ⟨u, v, d, e, rfl, _⟩ := h
    rfl
  obtain ⟨u, v, d, e, rfl, hu, hv, hd, he, k⟩ := h
  refine ⟨_, (pss_cut (ps_try_as (i := 4) (Wout := fun _ _ _ _ => False) rfl rfl sc__law_asked.nd rfl rfl ⟨rfl, by decide, .inl g_InvalidGraph⟩ takes0 (fun W pn xe tk _ => (pss_cons (ps_set (i := 2) sc__law_asked.nd rfl (Or.inl rfl) (pe_makeS GD.M GD.G (hr.mono (by omega)) (by rfl) GD.gC GD.b (fun σ => passAt tk σ) (by exact (pa_cons (pv 0) (pa_cons (pv 1) (pa_cons (pe_tup (pa_cons (pe_tup (pa_cons pe_str (pa_cons (pe_tup (pa_cons (pe_tup (pa_cons (pe_tup pa_nil) (pa_cons (pe_tup pa_nil) (pa_cons (pe_tup pa_nil) (pa_cons (pe_tup pa_nil) pa_nil))))) pa_nil)) pa_nil))) pa_nil)) (pa_cons pe_str pa_nil))))) pk_nil))
  (pss_one (ps_set (i := 3) sc__law_asked.nd rfl (Or.inl rfl) (pe_tup (pa_cons pe_str (pa_cons (pe_fldK (K := K) rfl (pv 2) rfl) (pa_cons (pe_fldK (K := K) rfl (pv 2) rfl) pa_nil))))))))
  (fun a oe cls d pn hz hf => (pss_one (ps_set (i := 3) sc__law_asked.nd rfl (Or.inl rfl) (pe_tup (pa_cons pe_str (pa_cons (pe_xf (C := CI) xI.xf n_part hz hf (pv 4)) (pa_cons (pe_xf (C := CI) xI.xf n_path hz hf (pv 4)) pa_nil))))))))
  (pss_one (ps_ret (pv 3)))), ?_⟩
  have hC : PySem.W.exmOne K (.ref CI) (.ref CI) = some true := by rw [xI.exm xI]; simp
  refine q_cut (M := fun σ' H' => ∃ r x2 x4, σ' = [some u, some v, x2, some r, x4] ∧ Rp M0 H' 3 r (dueG d e) ∧ Ex H H') ?_ ?_
  · have hmods : ∀ {σ : L2.St}, EvP (tTup (tCons (tTup (tCons (tC (.str "m")) (tCons (tTup (tCons (tTup (tCons (tTup tNil) (tCons (tTup tNil) (tCons (tTup tNil) (tCons (tTup tNil) tNil))))) tNil)) tNil))) tNil)) σ H (Da 5 modsD) :=
      evp_tup1 (n := 4) (evp_tup2 (n := 3) evp_str (evp_tup1 (n := 2) (evp_tup (n := 1) (ds := [.tuple [], .tuple [], .tuple [], .tuple []]) (eap_cons (evp_tup0 (n := 0)) (Da.mono _ _) (eap_cons (evp_tup0 (n := 0)) (Da.mono _ _) (eap_cons (evp_tup0 (n := 0)) (Da.mono _ _) (eap_cons (evp_tup0 (n := 0)) (Da.mono _ _) eap_nil)))) (by show 4 ≤ 1000; decide))))
    refine ⟨_, rfl, _, rfl, hmods H (Ex.refl H) _ fun m H1 e1 rm => ?_⟩
    refine ⟨rfl, rfl, fun x dx hx hdx hne => ?_⟩
    have hx1 : (upd H1 dx (HO.own x)) x = none := by rw [upd_ne hne.symm]; exact hx
    have e2 : Ex H1 (upd (upd H1 dx (HO.own x)) x (HO.ins CG dx [])) := (Ex.new hdx).trans (Ex.new hx1)
    have back : ∀ {H' : Hp}, (∀ b o, b ≠ x → b ≠ dx → (upd (upd H1 dx (HO.own x)) x (HO.ins CG dx [])) b = some o → H' b = some o) → Ex H H' := fun same b o hb => by
      have h1 := e1 b o hb
      exact same b o (ne_of_none h1 hx) (ne_of_none h1 hdx) (e2 b o h1)
    refine ⟨x, dx, u, v, m, d, e, rfl, upd_same, by rw [upd_ne hne, upd_same], hu.ex (e1.trans e2), hv.ex (e1.trans e2), Rp.ex e2 rm, hd, he, fun hn H' fs same hx' hw hev => ?_, fun z p hz dd H' same fly => ?_⟩
    · refine ⟨rfl, ?_⟩
      refine ⟨_, rfl, x, CG, dx, fs, u, rfl, hx', GD.cl, GD.nw, hw, _, rfl, x, CG, dx, fs, v, rfl, hx', GD.cl, GD.ne, hev, (by show 3 ≤ sizeLine; decide), fun t ht => ⟨.ref t, _, _, rfl, ?_, (back same).trans (Ex.new ht)⟩⟩
      rw [due_none hn]
      exact ⟨_, upd_same, by show 3 ≤ 1000; decide, .cons Rp.str (.cons (hu.ex ((back same).trans (Ex.new ht))) (.cons (hv.ex ((back same).trans (Ex.new ht))) .nil)), fun z => z⟩
    · refine ⟨true, hC, fun _ a ha => ?_, fun z => Bool.noConfusion z⟩
      obtain ⟨dx', fs, rfl, hdx', hf⟩ := fly
      obtain ⟨u1, hu1, r1⟩ := hf 0 "part" _ rfl rfl
      obtain ⟨u2, hu2, r2⟩ := hf 1 "path" _ rfl rfl
      refine ⟨_, rfl, rfl, rfl, dx', fs, u1, rfl, hdx', hu1, _, rfl, rfl, rfl, dx', fs, u2, rfl, hdx', hu2, (by show 3 ≤ sizeLine; decide), fun t ht => ⟨.ref t, _, _, rfl, ?_, (back same).trans (Ex.new ht)⟩⟩
      rw [due_some hz]
      exact ⟨_, upd_same, by show 3 ≤ 1000; decide, .cons Rp.str (.cons (r1.ex (Ex.new ht)).up (.cons (r2.ex (Ex.new ht)).up .nil)), fun z => z⟩
  · rintro σ' H1 ⟨r, x2, x4, rfl, hr1, e1⟩
    exact ⟨_, rfl, k _ _ e1 hr1⟩
end
end My
set_option Elab.async false
set_option linter.all false
set_option maxRecDepth 100000
set_option maxHeartbeats 4000000
namespace Dl
open PySem PySem.Spec PyProof.Rows L2 Evl Cm
/-! ### how denotations run, step by step (no exceptions) -/
section
variable {ρ ρ1 ρ2 : Dl.Env} {S S1 S2 S3 S4 : Store} {x y z v : AV} {xs ys avs : List AV} {da db dc de dx dy dv : DE} {dA dr : DA} {dT dU : DT} {d d' db' : DS} {dg : DG} {b b1 b2 : Bool} {i n : Nat}
theorem ev_var (h : ρ[i]? = some (some x)) : dVar i ρ S = .ok x S := by
  unfold dVar
  rw [h]
theorem ev_c : dC x ρ S = .ok x S := rfl
theorem ev_op {f : AV → AV → Store → Option AV} (ha : da ρ S = .ok x S1) (hb : db ρ S1 = .ok y S2) (hf : f x y S2 = some z) : dOp f da db ρ S = .ok z S2 := by
  unfold dOp
  rw [ha, Res.bind_ok, hb, Res.bind_ok, hf, ofO_some]
theorem ev_chain {f g : AV → AV → Store → Option AV} {c : AV} (ha : da ρ S = .ok x S1) (hb : db ρ S1 = .ok y S2) (hf : f x y S2 = some (.bl true)) (hc : dc ρ S2 = .ok z S3) (hg : g y z S3 = some c) : dChain f g da db dc ρ S = .ok c S3 := by
  unfold dChain
  rw [ha, Res.bind_ok, hb, Res.bind_ok]
  simp only [hf, Option.bind_some, asB]
  rw [hc, Res.bind_ok, hg, ofO_some]
theorem ev_nil : dNil ρ S = .ok [] S := rfl
theorem ev_cons (ha : da ρ S = .ok x S1) (hr : dr ρ S1 = .ok xs S2) : dCons da dr ρ S = .ok (x :: xs) S2 := by
  unfold dCons
  rw [ha, Res.bind_ok, hr, Res.bind_ok]
theorem ev_cb {f : List AV → Store → Option AV} (hA : dA ρ S = .ok xs S1) (hf : f xs S1 = some z) : dCB f dA ρ S = .ok z S1 := by
  unfold dCB
  rw [hA, Res.bind_ok, hf, ofO_some]
theorem ev_tupF (hA : dA ρ S = .ok xs S1) (hl : xs.length ≤ lim) : dTupF dA ρ S = .ok (.tup true xs) S1 := by
  unfold dTupF
  rw [hA, Res.bind_ok, if_pos hl]
theorem ev_lst (hA : dA ρ S = .ok xs S1) (hl : xs.length ≤ lim) : dLst dA ρ S = .ok (.lst xs) S1 := by
  unfold dLst
  rw [hA, Res.bind_ok, if_pos hl]
theorem ev_test (ha : da ρ S = .ok (.bl b) S1) : dTest da ρ S = .ok b S1 := by
  unfold dTest
  rw [ha, Res.bind_ok]
  rfl
theorem ev_tru (ha : da ρ S = .ok x S1) (h : truOf S1 x = some b) : dTru da ρ S = .ok b S1 := by
  unfold dTru
  rw [ha, Res.bind_ok, h, ofO_some]
theorem ev_and (ha : dT ρ S = .ok b1 S1) (hf : b1 = false → S2 = S1 ∧ b = false) (ht : b1 = true → dU ρ S1 = .ok b S2) : dAnd dT dU ρ S = .ok b S2 := by
  unfold dAnd
  rw [ha, Res.bind_ok]
  cases b1 with
  | true => rw [if_pos rfl, ht rfl]
  | false =>
    obtain ⟨rfl, rfl⟩ := hf rfl
    rfl
theorem ev_not (ha : dT ρ S = .ok b S1) : dNot dT ρ S = .ok (!b) S1 := by
  unfold dNot
  rw [ha, Res.bind_ok]
theorem ev_fld {f : Str} {ns : List Str} {m : Str} {fs : List (Str × AV)} (ha : da ρ S = .ok x S1) (ho : fsOf S1 x = some (m, fs)) (hm : m ∈ ns) (hf : fs.lookup f = some v) : dFld f ns da ρ S = .ok v S1 := by
  unfold dFld fFld
  rw [ha, Res.bind_ok]
  simp only [ho]
  first
    | (rw [if_pos hm, hf]; rfl)
    | simp [hm, hf]
theorem ev_call {F : FD} (hA : dA ρ S = .ok avs S1) (hl : avs.length = n) (hF : F avs S1 = .ok v S2) : dCall n F dA ρ S = .ok v S2 := by
  unfold dCall
  rw [hA, Res.bind_ok, if_pos hl, hF]
theorem ev_meth {C m : Str} {F : FD} {fs : List (Str × AV)} (ha : da ρ S = .ok x S1) (ho : fsOf S1 x = some (C, fs)) (hm : fs.lookup m = none) (hA : dA ρ S1 = .ok avs S2) (hl : avs.length + 1 = n) (hF : F (x :: avs) S2 = .ok v S3) : dMeth C m n F da dA ρ S = .ok v S3 := by
  unfold dMeth
  rw [ha, Res.bind_ok]
  simp [ho, hm, hA, hl, hF]
theorem ev_make {C : Str} {F : FD} (hA : dA ρ S = .ok avs S1) (hl : avs.length + 1 = n) (hF : F (.ref S1.length :: avs) (S1 ++ [.obj C []]) = .ok .non S2) : dMake C n F dA ρ S = .ok (.ref S1.length) S2 := by
  unfold dMake
  rw [hA, Res.bind_ok, if_pos hl, hF, Res.bind_ok]
theorem ev_bm {T : String} {f : MF} (hx : dx ρ S = .ok x S1) (ht : tyA T x S1 = true) (hA : dA ρ S1 = .ok avs S2) (hf : f x avs S2 = some (y, S3)) : dBM T f dx dA ρ S = .ok y S3 := by
  unfold dBM
  rw [hx, Res.bind_ok, if_pos ht, hA, Res.bind_ok]
  simp only [hf]
theorem ev_th {dl : DL} (h : dl ρ S = .ok xs S1) : dTh dl ρ S = .ok (.ref S1.length) (S1 ++ [.lst xs]) := by
  unfold dTh
  rw [h, Res.bind_ok]
theorem ev_fz {dl : DL} (h : dl ρ S = .ok xs S1) : dFz dl ρ S = .ok (.lst xs) S1 := by
  unfold dFz
  rw [h, Res.bind_ok]
theorem ev_thD {dd : DDc} {ks : List (AV × AV)} (h : dd ρ S = .ok ks S1) : dThD dd ρ S = .ok (.ref S1.length) (S1 ++ [.dic ks]) := by
  unfold dThD
  rw [h, Res.bind_ok]
theorem ev_lcb {f : List AV → Store → Option (List AV)} (hA : dA ρ S = .ok xs S1) (hf : f xs S1 = some ys) : dlCB f dA ρ S = .ok ys S1 := by
  unfold dlCB
  rw [hA, Res.bind_ok, hf, ofO_some]
/-! statements -/
theorem ev_seq (h : d ρ S = .go (.nx ρ1) S1) : dSeq d d' ρ S = d' ρ1 S1 := by
  unfold dSeq
  rw [h]
theorem ev_asg (he : de ρ S = .ok x S1) (hg : dg x ρ = some ρ1) : dAsg de dg ρ S = .go (.nx ρ1) S1 := by
  unfold dAsg
  rw [he, Res.go_ok, hg]
theorem ev_drop (he : de ρ S = .ok x S1) : dDrop de ρ S = .go (.nx ρ) S1 := by
  unfold dDrop
  rw [he, Res.go_ok]
theorem ev_ret (he : de ρ S = .ok x S1) : dRet de ρ S = .go (.rt x) S1 := by
  unfold dRet
  rw [he, Res.go_ok]
theorem ev_if (ht : dT ρ S = .ok b S1) : dIfS dT d d' ρ S = if b = true then d ρ S1 else d' ρ S1 := by
  unfold dIfS
  rw [ht, Res.go_ok]
theorem ev_ift (ht : dT ρ S = .ok true S1) : dIfS dT d d' ρ S = d ρ S1 := ev_if ht
theorem ev_iff (ht : dT ρ S = .ok false S1) : dIfS dT d d' ρ S = d' ρ S1 := ev_if ht
theorem ev_setF {f : Str} {ns : List Str} {m : Str} {fs : List (Str × AV)} (hv : dv ρ S = .ok y S1) (hx : dx ρ S1 = .ok (.ref i) S2) (ho : stO S2 i = some (m, fs)) (hm : m ∈ ns) (hl : fs.length < 1000) : dSetF f ns dv dx ρ S = .go (.nx ρ) (S2.set i (.obj m (putFA f y fs))) := by
  unfold dSetF
  rw [hv, Res.go_ok, hx, Res.go_ok]
  simp only [ho]
  rw [if_pos ⟨hm, hl⟩]
theorem ev_dput {ks : List (AV × AV)} (hv : dv ρ S = .ok v S1) (hx : dx ρ S1 = .ok (.ref i) S2) (hy : dy ρ S2 = .ok y S3) (ho : stD S3 i = some ks) (hl : ks.length ≤ lim) (hk : isKey y = true) : dDPut dx dy dv ρ S = .go (.nx ρ) (S3.set i (.dic (putB ks y v))) := by
  unfold dDPut
  rw [hv, Res.go_ok, hx, Res.go_ok, hy, Res.go_ok]
  simp only [ho]
  rw [if_pos ⟨hl, hk⟩]
theorem ev_run (h : d (Dl.envOf n avs) S = .go (.rt v) S1) : runD d n avs S = .ok v S1 := by
  unfold runD
  rw [h]
  rfl
theorem ev_runN (h : d (Dl.envOf n avs) S = .go (.nx ρ1) S1) : runD d n avs S = .ok .non S1 := by
  unfold runD
  rw [h]
  rfl
/-! walks -/
theorem ev_forN {gd : Store → Bool} (h : gd S = true) : forL gd dg d [] ρ S = .go (.nx ρ) S := by
  unfold forL
  rw [if_pos h]
theorem ev_forC {gd : Store → Bool} (h : gd S = true) (hg : dg x ρ = some ρ1) (hb : d ρ1 S = .go (.nx ρ2) S2) : forL gd dg d (x :: xs) ρ S = forL gd dg d xs ρ2 S2 := by
  show (if gd S = true then _ else _) = _
  rw [if_pos h, hg]
  simp only [hb]
theorem ev_forCc {gd : Store → Bool} (h : gd S = true) (hg : dg x ρ = some ρ1) (hb : d ρ1 S = .go (.ct ρ2) S2) : forL gd dg d (x :: xs) ρ S = forL gd dg d xs ρ2 S2 := by
  show (if gd S = true then _ else _) = _
  rw [if_pos h, hg]
  simp only [hb]
theorem ev_for {di : DI} {its : Wk} (hi : di ρ S = .ok its S1) : dFor di dg d ρ S = forL its.gd dg d its.xs ρ S1 := by
  unfold dFor
  rw [hi, Res.go_ok]
/-- a for whose turns keep an invariant -/
theorem forL_inv {gd : Store → Bool} (I : List AV → Dl.Env → Store → Prop) (hI : ∀ l ρ S, I l ρ S → gd S = true) (step : ∀ x r ρ S, I (x :: r) ρ S → ∃ ρ1 ρ2 S2, dg x ρ = some ρ1 ∧ (d ρ1 S = .go (.nx ρ2) S2 ∨ d ρ1 S = .go (.ct ρ2) S2) ∧ I r ρ2 S2) :
    ∀ l ρ S, I l ρ S → ∃ ρ2 S2, forL gd dg d l ρ S = .go (.nx ρ2) S2 ∧ I [] ρ2 S2
  | [], ρ, S, h => ⟨ρ, S, ev_forN (hI _ _ _ h), h⟩
  | x :: r, ρ, S, h => by
    obtain ⟨ρ1, ρ2, S2, hg, hb, h2⟩ := step x r ρ S h
    obtain ⟨ρ3, S3, e, h3⟩ := forL_inv I hI step r ρ2 S2 h2
    rcases hb with hb | hb
    · exact ⟨ρ3, S3, (ev_forC (hI _ _ _ h) hg hb).trans e, h3⟩
    · exact ⟨ρ3, S3, (ev_forCc (hI _ _ _ h) hg hb).trans e, h3⟩
theorem ev_any {its : Wk} (ha : da ρ S = .ok x S1) (h : itsOf S1 x = some its) : diAny da ρ S = .ok its S1 := by
  unfold diAny
  rw [ha, Res.bind_ok, h, ofO_some]
theorem lcL_nil {gd : Store → Bool} {dt : DT} (h : gd S = true) : lcL gd dg dt de ρ [] S = .ok [] S := by
  unfold lcL
  rw [if_pos h]
theorem lcL_cons {gd : Store → Bool} {dt : DT} (h : gd S = true) (hg : dg x ρ = some ρ1) (ht : dt ρ1 S = .ok true S1) (he : de ρ1 S1 = .ok y S2) (hr : lcL gd dg dt de ρ xs S2 = .ok ys S3) : lcL gd dg dt de ρ (x :: xs) S = .ok (y :: ys) S3 := by
  show (if gd S = true then _ else _) = _
  rw [if_pos h, hg]
  simp only [ht, Res.nox_ok, Res.bind_ok, if_true, he, hr]
theorem lcL_skip {gd : Store → Bool} {dt : DT} (h : gd S = true) (hg : dg x ρ = some ρ1) (ht : dt ρ1 S = .ok false S1) (hr : lcL gd dg dt de ρ xs S1 = .ok ys S3) : lcL gd dg dt de ρ (x :: xs) S = .ok ys S3 := by
  show (if gd S = true then _ else _) = _
  rw [if_pos h, hg]
  simp only [ht, Res.nox_ok, Res.bind_ok, Bool.false_eq_true, if_false, hr]
theorem ev_lc {di : DI} {dt : DT} {its : Wk} {vs : List Nat} (hi : di ρ S = .ok its S1) (hl : its.xs.length ≤ lim) (h : lcL its.gd dg dt de (wipeE ρ vs) its.xs S1 = .ok ys S2) : dlLc di dg dt de vs ρ S = .ok ys S2 := by
  unfold dlLc
  rw [hi, Res.bind_ok, if_pos hl, h]
/-- a comprehension that changes nothing -/
theorem lcL_map {gd : Store → Bool} {S : Store} {f : AV → AV} (h : gd S = true) (step : ∀ x ∈ xs, ∃ ρ1, dg x ρ = some ρ1 ∧ de ρ1 S = .ok (f x) S) : lcL gd dg dYes de ρ xs S = .ok (xs.map f) S := by
  induction xs with
  | nil => exact lcL_nil h
  | cons x xs ih =>
    obtain ⟨ρ1, hg, he⟩ := step x List.mem_cons_self
    exact lcL_cons h hg rfl he (ih fun y hy => step y (List.mem_cons_of_mem _ hy))
/-! the store -/
theorem stL_set_same {q : Nat} (h : q < S.length) : stL (S.set q (.lst xs)) q = some xs := by
  unfold stL
  rw [List.getElem?_set_self h]
theorem stD_set_same {q : Nat} {ks : List (AV × AV)} (h : q < S.length) : stD (S.set q (.dic ks)) q = some ks := by
  unfold stD
  rw [List.getElem?_set_self h]
theorem stO_set_same {q : Nat} {m : Str} {fs : List (Str × AV)} (h : q < S.length) : stO (S.set q (.obj m fs)) q = some (m, fs) := by
  unfold stO
  rw [List.getElem?_set_self h]
theorem stL_set_ne {p q : Nat} {o : AO} (h : p ≠ q) : stL (S.set q o) p = stL S p := by
  unfold stL
  rw [List.getElem?_set_ne (Ne.symm h)]
theorem stD_set_ne {p q : Nat} {o : AO} (h : p ≠ q) : stD (S.set q o) p = stD S p := by
  unfold stD
  rw [List.getElem?_set_ne (Ne.symm h)]
theorem stO_set_ne {p q : Nat} {o : AO} (h : p ≠ q) : stO (S.set q o) p = stO S p := by
  unfold stO
  rw [List.getElem?_set_ne (Ne.symm h)]
theorem stL_lt {q : Nat} (h : stL S q = some xs) : q < S.length := (List.getElem?_eq_some_iff.mp (stL_eq.mp h)).1
theorem stD_lt {q : Nat} {ks : List (AV × AV)} (h : stD S q = some ks) : q < S.length := (List.getElem?_eq_some_iff.mp (stD_eq.mp h)).1
theorem stO_lt {q : Nat} {m : Str} {fs : List (Str × AV)} (h : stO S q = some (m, fs)) : q < S.length := (List.getElem?_eq_some_iff.mp (stO_eq.mp h)).1
theorem stL_app {G : Store} {q : Nat} (h : stL S q = some xs) : stL (S ++ G) q = some xs := by
  have := stL_lt h
  unfold stL at h ⊢
  rw [List.getElem?_append_left this]
  exact h
theorem stD_app {G : Store} {q : Nat} {ks : List (AV × AV)} (h : stD S q = some ks) : stD (S ++ G) q = some ks := by
  have := stD_lt h
  unfold stD at h ⊢
  rw [List.getElem?_append_left this]
  exact h
theorem stO_app {G : Store} {q : Nat} {m : Str} {fs : List (Str × AV)} (h : stO S q = some (m, fs)) : stO (S ++ G) q = some (m, fs) := by
  have := stO_lt h
  unfold stO at h ⊢
  rw [List.getElem?_append_left this]
  exact h
theorem ty_lst {q : Nat} (h : stL S q = some xs) : tyA "list" (.ref q) S = true := by
  show (match S[q]? with
    | some (.lst _) => decide (("list" : String) = "list")
    | some (.dic _) => decide (("list" : String) = "dict")
    | _ => false) = true
  rw [stL_eq.mp h]
  rfl
theorem pop_ev {q : Nat} (h : stL S q = some xs) (hx : xs[xs.length - 1]? = some x) : fPop (.ref q) [] S = some (x, S.set q (.lst xs.dropLast)) := by
  show (match stL S q with
    | some xs => match xs[xs.length - 1]? with
      | some y => some (y, S.set q (.lst xs.dropLast))
      | none => none
    | none => none) = _
  simp only [h, hx]
theorem append_ev {q : Nat} (h : stL S q = some xs) (hl : xs.length ≤ lim) : fAppend (.ref q) [x] S = some (.non, S.set q (.lst (xs ++ [x]))) := by
  show (match stL S q with
    | some xs => if xs.length ≤ lim then some (AV.non, S.set q (.lst (xs ++ [x]))) else none
    | none => none) = _
  simp only [h, if_pos hl]
theorem extend_ev {q : Nat} (h : stL S q = some xs) (hy : seqL S y = some ys) (hl : xs.length + ys.length ≤ lim) : fExtend (.ref q) [y] S = some (.non, S.set q (.lst (xs ++ ys))) := by
  show (match stL S q, seqL S y with
    | some xs, some zs => if xs.length + zs.length ≤ lim then some (AV.non, S.set q (.lst (xs ++ zs))) else none
    | _, _ => none) = _
  simp only [h, hy, if_pos hl]
end
end Dl
set_option Elab.async false
set_option linter.all false
set_option maxRecDepth 100000
set_option maxHeartbeats 4000000
namespace Dl
open PySem PySem.Spec PyProof.Rows L2 Evl Cm
section
variable {W : WX} {K : PySem.W.Frag} {te tv td ty : TE} {de dv dd dy : DE}
/-- xs[::-1] -/
def dlRev (da : DE) : DL := fun ρ S => (da ρ S).bind fun x S1 => ofO ((seqL S1 x).map List.reverse) S1
theorem Rels.snoc {c : Co} {H : Hp} : ∀ {xs : List AV} {vs : List V} {x : AV} {v : V}, Rels c H xs vs → Rel c H x v → Rels c H (xs ++ [x]) (vs ++ [v]) := fun r h => r.app (.one h)
theorem Rels.rev {c : Co} {H : Hp} : ∀ {xs : List AV} {vs : List V}, Rels c H xs vs → Rels c H xs.reverse vs.reverse
  | _, _, .nil => .nil
  | _, _, .cons r rs => by
    rw [List.reverse_cons, List.reverse_cons]
    exact (Rels.rev rs).snoc r
theorem k_revL {X : Cx} (hK : X.K = K) {e : Expr} {te : TE} {k : Tok} {p1 p2 p3 pos : Pos} (h : PE X e te) : PE X (.Subscript e (.Slice none none (some (.UnaryOp .USub (.Constant (.int 1) k p1) p2)) p3) pos) (tRevL K te) := hK ▸ pe_revL h
theorem sl_rev {da : DE} (ha : SE W K te da) : SEL W K (tRevL K te) (dlRev da) := by
  intro ρ S c σ H Q hK k e h
  refine ha ρ S c σ H _ hK k e (Res.post_mono (Res.post_bind.mp h) (fun x S1 h1 => ?_) fun _ _ z => z)
  intro c1 H1 u n1 k1 r1
  obtain ⟨ys, e1, g⟩ := ofO_post h1
  obtain ⟨xs, e2, rfl⟩ := Option.map_eq_some_iff.mp e1
  obtain ⟨a, vs, rfl, hs, rs⟩ := seqL_at k1 r1 e2
  exact ⟨a, vs, rfl, sq_of hs, fun p hp => g c1 H1 _ p n1 k1 hp rs.rev⟩
/-- xs[i] = v, xs a list of the store -/
def dLSet (dd dy dv : DE) : DS := fun ρ S => (dv ρ S).go ρ fun v S1 => (dd ρ S1).go ρ fun x S2 => (dy ρ S2).go ρ fun y S3 => match x, y with
  | .ref i, .int n => (match stL S3 i with
    | some xs => (match ixN xs.length n with
      | some j => .go (.nx ρ) (S3.set i (.lst (xs.set j v)))
      | none => .bad)
    | none => .bad)
  | _, _ => .bad
theorem Rels.set {c : Co} {H : Hp} {x : AV} {v : V} (r : Rel c H x v) : ∀ {xs : List AV} {vs : List V} (j : Nat), Rels c H xs vs → Rels c H (xs.set j x) (vs.set j v)
  | _, _, _, .nil => .nil
  | _, _, 0, .cons _ t => .cons r t
  | _, _, j + 1, .cons q t => .cons q (Rels.set r j t)
theorem ss_lset {tv ty : TE} {dy dv : DE} (hd : SE W K td dd) (hy : SE W K ty dy) (hv : SE W K tv dv) : SS W K (tAsg tv (gSub td ty rSetL)) (dLSet dd dy dv) := by
  intro ρ S c σ H D hK k e h
  refine hv ρ S c σ H _ hK k e (Res.post_mono (go_post e h) (fun v S1 h1 => ?_) fun _ _ z => z)
  intro c1 H1 uv n1 k1 r1
  have e1 := e.nxt n1
  have hK1 := n1.K.trans hK
  refine hd ρ S1 c1 σ H1 _ hK1 k1 e1 (Res.post_mono (go_post e1 (h1.nxt n1)) (fun x S2 h2 => ?_) fun _ _ z => z)
  intro c2 H2 ux n2 k2 r2
  have e2 := e1.nxt n2
  have hK2 := n2.K.trans hK1
  refine hy ρ S2 c2 σ H2 _ hK2 k2 e2 (Res.post_mono (go_post e2 (h2.nxt n2)) (fun y S3 h3 => ?_) fun _ _ z => z)
  intro c3 H3 uy n3 k3 r3
  have e3 := e2.nxt n3
  have rx := r2.nxt n3
  have rv := (r1.nxt n2).nxt n3
  have h3 := h3.nxt n3
  split at h3
  next =>
    split at h3
    next xs q =>
      split at h3
      next j hj =>
        obtain ⟨a, vs, rfl, ha, hw, rs⟩ := k3.lst_at rx q
        cases r3
        refine ⟨a, vs, _, j, rfl, rfl, hw, by rw [← rs.len]; exact hj, ?_⟩
        exact (show GoodN c3 H3 D.nx ρ _ from h3) c3 _ σ (k3.nxtSet ha ⟨_, hw, trivial⟩) (k3.setL ha hw (rs.set rv j)) (e3.nxt (k3.nxtSet ha ⟨_, hw, trivial⟩))
      next => exact False.elim h3
    next => exact False.elim h3
  next => exact False.elim h3
end
section
variable {ρ : Dl.Env} {S S1 S2 S3 : Store} {v : AV} {xs : List AV} {dv dx dy : DE} {i j : Nat} {n : Int}
theorem ev_lset (hv : dv ρ S = .ok v S1) (hx : dx ρ S1 = .ok (.ref i) S2) (hy : dy ρ S2 = .ok (.int n) S3) (ho : stL S3 i = some xs) (hj : ixN xs.length n = some j) : dLSet dx dy dv ρ S = .go (.nx ρ) (S3.set i (.lst (xs.set j v))) := by
  unfold dLSet
  rw [hv, Res.go_ok, hx, Res.go_ok, hy, Res.go_ok]
  simp only [ho, hj]
theorem ev_rev {da : DE} {x : AV} (ha : da ρ S = .ok x S1) (hx : seqL S1 x = some xs) : dlRev da ρ S = .ok xs.reverse S1 := by
  unfold dlRev
  rw [ha, Res.bind_ok, hx]
  rfl
end
end Dl
set_option Elab.async false
set_option linter.all false
set_option maxRecDepth 100000
set_option maxHeartbeats 4000000
namespace Dl
open PySem PySem.Spec PyProof.Rows L2 Evl Cm
/-! ### values that nothing can change, wherever they are -/
mutual
def AV.imm : AV → Bool
  | .non | .bl _ | .int _ | .str _ => true
  | .tup _ xs => imms xs
  | _ => false
def imms : List AV → Bool
  | [] => true
  | x :: xs => x.imm && imms xs
end
section
variable {c c' : Co} {H H' : Hp} {W : WX} {K : PySem.W.Frag} {S : Store}
theorem sqT_ex {a : Addr} {vs : List V} (e : Ex H H') (h : SqT K H a vs) : SqT K H' a vs := by
  rcases h with (h | ⟨o, h⟩) | h
  · exact .inl (.inl (e _ _ h))
  · exact .inl (.inr ⟨o, e _ _ h⟩)
  · exact .inr h
theorem pln_ex {a : Addr} (e : Ex H H') (h : Pln K H a) : Pln K H' a := by
  rcases h with ⟨o, u, h, h1, h2⟩ | h
  · exact .inl ⟨o, u, e _ _ h, h1, h2⟩
  · exact .inr h
mutual
theorem Rel.imm (e : Ex H H') (hK : c'.K = c.K) : ∀ {x : AV} {v : V}, x.imm = true → Rel c H x v → Rel c' H' x v
  | _, _, _, .non => .non
  | _, _, _, .bl b => .bl b
  | _, _, _, .int i => .int i
  | _, _, _, .str h => .str h
  | _, _, hi, .tup h hp r => .tup (by rw [hK]; exact sqT_ex e h) (fun z => by rw [hK]; exact pln_ex e (hp z)) (Rels.imm e hK (by simpa [AV.imm] using hi) r)
  | .opq _, _, hi, _ => by simp [AV.imm] at hi
  | .lst _, _, hi, _ => by simp [AV.imm] at hi
  | .dic _, _, hi, _ => by simp [AV.imm] at hi
  | .obj _ _, _, hi, _ => by simp [AV.imm] at hi
  | .exc _ _, _, hi, _ => by simp [AV.imm] at hi
  | .ref _, _, hi, _ => by simp [AV.imm] at hi
theorem Rels.imm (e : Ex H H') (hK : c'.K = c.K) : ∀ {xs : List AV} {vs : List V}, imms xs = true → Rels c H xs vs → Rels c' H' xs vs
  | _, _, _, .nil => .nil
  | _, _, hi, .cons r rs => by
    have hi := Bool.and_eq_true_iff.mp (by simpa [imms] using hi)
    exact .cons (Rel.imm e hK hi.1 r) (Rels.imm e hK hi.2 rs)
end
theorem Nxt.of_ex (e : Ex H H') : Nxt c H c H' := ⟨rfl, rfl, ⟨fun _ h => h, fun _ h => .inl h⟩, ⟨[], by simp, fun _ h => absurd h List.not_mem_nil⟩, fun a o _ h => e a o h, fun a o _ h => e a o h, fun a xs h => e a _ h, fun a o u h => e a _ h, fun a h => by
  cases q : H a with
  | none => exact absurd q h
  | some o =>
    rw [e a o q]
    simp⟩
theorem Cor.of_ex (k : Cor c S H) (e : Ex H H') : Cor c S H' := by
  have n : Nxt c H c H' := Nxt.of_ex e
  refine ⟨k.len, k.nd, k.apart, fun a ha => n.live a (k.hl a ha), fun i o a e1 e2 => ?_⟩
  have r := k.at_ i o a e1 e2
  refine r.nxt n ?_
  cases q : H a with
  | none => exact absurd q r.isThere
  | some u => exact e a u q
/-- fields that nothing can change -/
def immf (fs : List (Str × AV)) : Bool := imms (fs.map (·.2))
theorem Relf.imm (e : Ex H H') (hK : c'.K = c.K) : ∀ {fs : List (Str × AV)} {gs : List (Str × V)}, immf fs = true → Relf c H fs gs → Relf c' H' fs gs
  | _, _, _, .nil => .nil
  | _, _, hi, .cons r rs => by
    have hi := Bool.and_eq_true_iff.mp (by simpa [immf, imms] using hi)
    exact .cons (Rel.imm e hK hi.1 r) (Relf.imm e hK (by unfold immf; exact hi.2) rs)
theorem Ex.rfl' : Ex H H := fun _ _ h => h
/-- nothing but what stands in the heap -/
def Co.bare (K : PySem.W.Frag) : Co := ⟨K, [], fun _ => False, none⟩
theorem bare_out {a : Addr} : (Co.bare K).Out a := ⟨List.not_mem_nil, id⟩
theorem bare_cor : Cor (Co.bare K) [] H := ⟨rfl, List.nodup_nil, fun _ h => absurd h List.not_mem_nil, fun _ h => h.elim, fun i o a h => by simp at h⟩
theorem bare_ex {c' : Co} (n : Nxt (Co.bare K) H c' H') : Ex H H' := fun a o h => n.keep a o bare_out h
/-- o.m() on an object that does not change meanwhile -/
def dMethFz (C m : Str) (F : FD) (da : DE) : DE := fun ρ S => (da ρ S).bind fun x S1 => match fsOf S1 x with
  | some (cn, fs) => if cn = C ∧ fs.lookup m = none ∧ immf fs = true then (match F [.obj C fs] [] with
    | .ok .non _ => .ok .non S1
    | _ => .bad) else .bad
  | none => .bad
theorem se_methFz {te : TE} {da : DE} {C m : Str} {F : FD} (ha : SE W K te da) : SE W K (tMS (He.ga K C) m (conc K 1 F) (WE W) te tNil) (dMethFz C m F da) := by
  intro ρ S c σ H Q hK k e h
  refine ha ρ S c σ H _ hK k e (Res.post_mono (Res.post_bind.mp h) (fun x S1 h1 => ?_) fun _ _ z => z)
  intro c1 H1 u n1 k1 r1
  cases q : fsOf S1 x with
  | none =>
    rw [q] at h1
    exact False.elim h1
  | some p =>
    obtain ⟨cn, fs⟩ := p
    rw [q] at h1
    simp only at h1
    split at h1
    next hc =>
      obtain ⟨rfl, hl, hi⟩ := hc
      obtain ⟨a, dx, gs, rfl, h2, rf⟩ := fsOf_at k1 r1 q
      have hK1 := n1.K.trans hK
      rw [hK1] at h2
      split at h1
      next S2 hF =>
        refine ⟨a, dx, gs, rfl, h2, rf.lookN hl, Co.bare K, [], [.obj cn fs], rfl, bare_cor, .cons (.obj h2 bare_out (rf.imm Ex.rfl' hK1.symm hi)) .nil, rfl, ?_⟩
        rw [hF]
        intro c' H' v n kk rv
        cases rv
        have ex := bare_ex n
        exact h1 c1 H' _ (n1.trans (Nxt.of_ex ex)) (k1.of_ex ex) .non
      next => exact False.elim h1
    next => exact False.elim h1
/-- C(.., k=..): a new object that never changes any more -/
def dMakeFz (C : Str) (n m : Nat) (F : FD) (dA dB : DA) : DE := fun ρ S => (dA ρ S).bind fun avs S1 => (dB ρ S1).bind fun bvs S2 => if avs.length = n ∧ bvs.length = m ∧ imms (avs ++ bvs) = true then (match F (.ref 0 :: (avs ++ bvs)) [.obj C []] with
  | .ok .non S' => (match S'[0]? with
    | some (AO.obj D fs) => if D = C ∧ immf fs = true then .ok (.obj C fs) S2 else .bad
    | _ => .bad)
  | _ => .bad) else .bad
theorem imms_app : ∀ {xs ys : List AV}, imms (xs ++ ys) = true → imms xs = true ∧ imms ys = true
  | [], ys, h => ⟨rfl, h⟩
  | x :: xs, ys, h => by
    have h' := Bool.and_eq_true_iff.mp (show (x.imm && imms (xs ++ ys)) = true from h)
    have := imms_app h'.2
    exact ⟨by show (x.imm && imms xs) = true; rw [h'.1, this.1]; rfl, this.2⟩
theorem se_makeFz {C : Str} {n m : Nat} {F : FD} {tA tB : TA} {dA dB : DA} (hA : SA W K tA dA) (hB : SA W K tB dB) : SE W K (tMakeS (He.ga K C) n m (conc K (n + 1 + m) F) (fun vs zs => vs ++ zs) (WE W) tA tB) (dMakeFz C n m F dA dB) := by
  intro ρ S c σ H Q hK k e h
  refine hA ρ S c σ H _ hK k e (Res.post_mono (Res.post_bind.mp h) (fun avs S1 h1 => ?_) fun _ _ z => z)
  intro c1 H1 vs n1 k1 rs
  have hK1 := n1.K.trans hK
  refine hB ρ S1 c1 σ H1 _ hK1 k1 (e.nxt n1) (Res.post_mono (Res.post_bind.mp h1) (fun bvs S2 h2 => ?_) fun _ _ z => z.nxt n1)
  intro c2 H2 zs n2 k2 rz
  have n12 := n1.trans n2
  have hK2 := n2.K.trans hK1
  split at h2
  next hc =>
    obtain ⟨hl, hm, hi⟩ := hc
    refine ⟨by rw [← rs.len]; exact hl, by rw [← rz.len]; exact hm, fun x dx hx hdx hne => ?_⟩
    split at h2
    next S' hF =>
      split at h2
      next D fs hS =>
        split at h2
        next hd =>
          obtain ⟨rfl, hf⟩ := hd
          let c0 : Co := ⟨K, [x], fun _ => False, none⟩
          have hx2 : (upd (upd H2 dx (.own x)) x (.ins (He.ga K D) dx [])) x = some (.ins (He.ga K D) dx []) := upd_same
          have ex2 : Ex H2 (upd (upd H2 dx (.own x)) x (.ins (He.ga K D) dx [])) := fun a o ho => by
            have na : a ≠ x := fun z => by rw [z, hx] at ho; cases ho
            have nd : a ≠ dx := fun z => by rw [z, hdx] at ho; cases ho
            rw [upd_ne na, upd_ne nd]
            exact ho
          have k0 : Cor c0 [.obj D []] (upd (upd H2 dx (.own x)) x (.ins (He.ga K D) dx [])) := by
            refine ⟨rfl, by simp [c0], fun a _ h => h, fun a h => h.elim, fun i o a e1 e2 => ?_⟩
            cases i with
            | zero =>
              cases e1
              cases e2
              exact ⟨dx, [], hx2, .nil⟩
            | succ i => simp at e1
          have rargs : Rels c0 (upd (upd H2 dx (.own x)) x (.ins (He.ga K D) dx [])) (avs ++ bvs) (vs ++ zs) := ((rs.nxt n2).app rz).imm ex2 hK2.symm hi
          refine ⟨c0, [.obj D []], .ref 0 :: (avs ++ bvs), rfl, k0, .cons (.ref rfl) rargs, by rw [List.length_cons, List.length_append, hl, hm]; omega, ?_⟩
          rw [hF]
          intro c' H' v nn kk rv
          cases rv
          refine ⟨rfl, ?_⟩
          have ex : Ex H2 H' := fun a o ho => by
            have na : a ≠ x := fun z => by rw [z, hx] at ho; cases ho
            exact nn.keep a o ⟨fun z => na (List.mem_singleton.mp z), id⟩ (ex2 a o ho)
          have htr : c'.tr[0]? = some x := nn.at (c := c0) (i := 0) rfl
          obtain ⟨dx', gs, g1, g2⟩ := kk.at_ 0 _ x hS htr
          have hKc : c'.K = K := nn.K
          have kout : c2.Out x := k2.out hx
          exact h2 c2 H' _ (n12.trans (Nxt.of_ex ex)) (k2.of_ex ex) (.obj (by rw [hK2, ← hKc]; exact g1) kout (g2.imm Ex.rfl' (hK2.trans hKc.symm) hf))
        next => exact False.elim h2
      next => exact False.elim h2
    next => exact False.elim h2
  next => exact False.elim h2
end
end Dl
namespace Dl
open PySem PySem.Spec PyProof.Rows L2 Evl Cm
/-- a class that is made with keywords -/
structure MkK (P : Program) (w : World) (K : PySem.W.Frag) (mg : Str → Option Value) (base : Heap) (k : Nat) (C : Str) (ps : List Str) (n : Nat) (ks : List Str) (F : FD) where
  f : Addr
  fd : FuncData
  M : Mk K (He.ga K C) f
  G : FnOk P w K mg base (L2.CX P w) k f fd ps (conc K ps.length F)
  b : KBn K fd ps (n + 1) ks (fun us ws => us ++ ws) (fun vs zs => vs ++ zs)
  gC : mg C = some (.ref (He.ga K C))
end Dl
set_option Elab.async false
set_option linter.all false
set_option maxRecDepth 100000
set_option maxHeartbeats 4000000
namespace Dl
open PySem PySem.Spec PyProof.Rows L2 Evl Cm
section
variable {c c' : Co} {H H' : Hp} {W : WX} {K : PySem.W.Frag} {S : Store}
/-! ### something is hidden meanwhile -/
theorem hide_nxt {a : Addr} {o : HO} (ha : H a = none) : Nxt c H (c.hide a) (upd H a o) := by
  have n := Nxt.new (c := c) (o := o) ha
  exact ⟨rfl, rfl, ⟨fun _ h => .inr h, fun b h => h.elim (fun z => .inr (by rw [z]; exact ha)) .inl⟩, ⟨[], by simp [Co.hide], fun _ h => absurd h List.not_mem_nil⟩, n.keep, n.hkeep, n.tup, n.frz, n.live⟩
theorem hide_cor {a : Addr} {o : HO} (k : Cor c S H) (ha : H a = none) : Cor (c.hide a) S (upd H a o) := by
  have hDn := k.out ha
  have nh : Nxt c H (c.hide a) (upd H a o) := hide_nxt ha
  have ne1 : ∀ b, H b ≠ none → b ≠ a := fun b h z => h (by rw [z]; exact ha)
  refine ⟨k.len, k.nd, fun b hb z => z.elim (fun z => hDn.1 (by rw [← z]; exact hb)) (k.apart b hb), fun b hb => ?_, fun i q b e1 e2 => ?_⟩
  · rcases hb with z | z
    · rw [z, upd_same]
      simp
    · exact nh.live b (k.hl b z)
  · have r := k.at_ i q b e1 e2
    exact r.nxt nh (upd_ne (ne1 b r.isThere))
/-- what was hidden is gone -/
theorem gone {a : Addr} {o : HO} (k : Cor c S H) (ha : H a = none) (hl : ∀ xs, o ≠ .tup xs) (hf : ∀ q u, o ≠ .frz q u) (n : Nxt (c.hide a) (upd H a o) c' H') (k' : Cor c' S H') :
    Nxt c H (c'.unhide a) (del H' a) ∧ Cor (c'.unhide a) S (del H' a) ∧ ∀ {x : AV} {u : V}, Rel c' H' x u → Rel (c'.unhide a) (del H' a) x u := by
  have hDn := k.out ha
  have nh : Nxt c H (c.hide a) (upd H a o) := hide_nxt ha
  have nn := nh.trans n
  have hh : c'.hid a := n.hid.1 a (.inl rfl)
  have hd : H' a = some o := n.hkeep a o (.inl rfl) upd_same
  have htr : a ∉ c'.tr := k'.apart a |> fun f z => f z hh
  have ne1 : ∀ b, H b ≠ none → b ≠ a := fun b h z => h (by rw [z]; exact ha)
  have h0 : ∀ b, b ≠ a → del H' a b = H' b := fun b hb => if_neg hb
  have sm : Same2 c' (c'.unhide a) a H' (del H' a) := ⟨rfl, rfl, rfl, fun b _ ho => ⟨fun z => ho.2 (by rw [z]; exact hh), ho.1, fun z => ho.2 z.2⟩, ⟨h0, fun xs z => (by rw [hd] at z; cases z; exact hl _ rfl), fun q u z => (by rw [hd] at z; cases z; exact hf _ _ rfl)⟩⟩
  have nu : Nxt c H (c'.unhide a) (del H' a) := by
    have ou : ∀ b u, H b = some u → del H' a b = H' b := fun b u z => h0 b (ne1 b (by rw [z]; simp))
    refine ⟨nn.K, nn.ex, ⟨fun b z => ⟨fun w => hDn.2 (by rw [← w]; exact z), nn.hid.1 b z⟩, fun b z => nn.hid.2 b z.2⟩, nn.tr, fun b u hb z => by rw [ou b u z]; exact nn.keep b u hb z, fun b u hb z => by rw [ou b u z]; exact nn.hkeep b u hb z, fun b u z => by rw [ou b _ z]; exact nn.tup b u z, fun b q u z => by rw [ou b _ z]; exact nn.frz b q u z, fun b z => ?_⟩
    rw [h0 b (ne1 b z)]
    exact nn.live b z
  exact ⟨nu, k'.hid sm (fun b hb z => htr (by rw [← z]; exact hb)) (fun b hb z => k'.apart b hb z.2) fun b hb => by rw [h0 b hb.1]; exact k'.hl b hb.2, fun r => r.hid sm⟩
theorem exo_tup {e C : Addr} {d : Option Addr} {xs : List V} : exo e C d ≠ .tup xs := fun z => by
  unfold exo at z
  cases z
theorem exo_frz {e C : Addr} {d : Option Addr} {q : Obj} {u : HO} : exo e C d ≠ .frz q u := fun z => by
  unfold exo at z
  cases z
/-! ### raise C(..) -/
/-- the promise of an __init__ that keeps its argument as the field f -/
def spXv (K : PySem.W.Frag) (C : Addr) (f : Str) (ok : AV → Bool) (g : AV → AV) : Sp := fun vs H Q _ => ∃ (a : Addr) (c : Co) (S : Store) (x : AV) (v : V), vs = [.ref a, v] ∧ H a = some (exo a C none) ∧ c.K = K ∧ c.hid a ∧ Cor c S H ∧ Rel c H x v ∧ ok x = true ∧
  ∀ (c' : Co) (H' : Hp) (u : V) (dx : Addr), Nxt c H c' H' → Cor c' S H' → Rel c' H' (g x) u → H' dx = none → dx ≠ a → Q .non (upd (upd H' dx (exd dx [(f, u)])) a (exo a C (some dx)))
/-- what an own exception's class brings -/
structure XcN (P : Program) (w : World) (K : PySem.W.Frag) (mg : Str → Option Value) (base : Heap) (k : Nat) (C f : Str) (ps : List Str) (ok : AV → Bool) (g : AV → AV) where
  fI : Addr
  fd : FuncData
  T : OexC K (He.ga K C)
  iC : PySem.W.findIn K (.ref (He.ga K C)) "__init__" = some (some (.ref fI))
  tI : PySem.W.typeIn K (.ref fI) = some (.type "function")
  G : FnOk P w K mg base (L2.CX P w) k fI fd ps (spXv K (He.ga K C) f ok g)
  b : Binds K fd ps []
  gC : mg C = some (.ref (He.ga K C))
theorem passN {X : Cx} : Passes (L2.CX X.prog X.w) X (fun _ _ _ => False) := fun _ _ _ _ _ _ _ z => by
  obtain ⟨_, _, _, _, _, _, _, _, _, _, _, _, z⟩ := z
  exact False.elim z
def dRaise (C f : Str) (ok : AV → Bool) (g : AV → AV) (dA : DA) : DS := fun ρ S => (dA ρ S).go ρ fun avs S1 => match avs with
  | [x] => if ok x = true then .go (.xc ρ (.exc C [(f, g x)])) S1 else .bad
  | _ => .bad
theorem ss_raise {P : Program} {w : World} {mg : Str → Option Value} {base : Heap} {k : Nat} {C f : Str} {ps : List Str} {ok : AV → Bool} {g : AV → AV} (X : XcN P w K mg base k C f ps ok g) {tA : TA} {dA : DA} (hA : SA W K tA dA) :
    SS W K (fun _ σ H => tMkO (He.ga K C) (spXv K (He.ga K C) f ok g) [] tA σ H fun cls d H' => W cls d σ H') (dRaise C f ok g dA) := by
  intro ρ S c σ H D hK k e h
  refine hA ρ S c σ H _ hK k e (Res.post_mono (go_post e h) (fun avs S1 h1 => ?_) fun _ _ z => z)
  intro c1 H1 vs n1 k1 rs
  have hK1 := n1.K.trans hK
  split at h1
  next x =>
    split at h1
    next hx =>
      cases rs with
      | @cons _ v _ _ r rs =>
        cases rs
        refine ⟨by show 1 ≤ 1000; decide, fun a ha => ?_⟩
        refine ⟨a, c1.hide a, S1, x, v, rfl, upd_same, hK1, .inl rfl, hide_cor k1 ha, r.nxt (hide_nxt ha), hx, fun c2 H2 u dx n2 k2 r2 hdx hne => ?_⟩
        obtain ⟨g1, g2, g3⟩ := gone k1 ha (fun _ => exo_tup) (fun _ _ => exo_frz) n2 k2
        have hdx0 : del H2 a dx = none := by
          show (if dx = a then none else H2 dx) = none
          rw [if_neg hne]
          exact hdx
        have hdx1 : H1 dx = none := by
          cases q : H1 dx with
          | none => rfl
          | some o => exact absurd hdx0 (g1.live dx (by rw [q]; simp))
        have eH : upd (del (upd (upd H2 dx (exd dx [(f, u)])) a (exo a (He.ga K C) (some dx))) a) dx (.xd [(f, u)]) = upd (del H2 a) dx (.xd [(f, u)]) := by
          funext b
          by_cases z : b = dx
          · rw [z, upd_same, upd_same]
          · rw [upd_ne z, upd_ne z]
            show (if b = a then none else _) = (if b = a then none else _)
            by_cases y : b = a
            · rw [if_pos y, if_pos y]
            · rw [if_neg y, if_neg y, upd_ne y, upd_ne z]
        refine ⟨rfl, dx, [(f, u)], upd_same, by rw [upd_ne hne, upd_same], hdx1, ?_⟩
        rw [eH]
        have n3 := Nxt.new (c := c2.unhide a) (o := .xd [(f, u)]) hdx0
        have k3 := g2.new (o := .xd [(f, u)]) hdx0
        refine (show FallS c1 H1 W ρ (.exc C [(f, g x)]) S1 from h1.nxt n1) (c2.unhide a) _ σ _ _ (g1.trans n3) k3 ((e.nxt n1).nxt (g1.trans n3)) ⟨?_, .some upd_same ?_ (.cons ((g3 r2).nxt n3) .nil)⟩
        · have : (c2.unhide a).K = K := g1.K.trans hK1
          rw [this]
        · have o1 := g2.out hdx0
          exact ⟨fun z => o1.1 z, o1.2⟩
    next => exact False.elim h1
  next => exact False.elim h1
end
end Dl
set_option Elab.async false
set_option linter.all false
set_option maxRecDepth 100000
set_option maxHeartbeats 4000000
namespace Dl
open PySem PySem.Spec PyProof.Rows L2 Evl Cm
section
variable {c c' : Co} {H H' : Hp} {W : WX} {K : PySem.W.Frag} {S : Store}
/-! ### try .. except C as e -/
/-- what the suite is asked: it begins where the exception e with the fields fs has been caught -/
def SuiteOk (K : PySem.W.Frag) (W : WX) (C : Str) (i : Nat) (ts : Addr → Value → Option Addr → TS) (su : List (Str × AV) → DS) : Prop :=
  ∀ (ρ : Env) (S : Store) (c : Co) (σ : L2.St) (H : Hp) (D : Ends) (a : Addr) (fs : List (Str × AV)) (d : Option Addr), c.K = K → Cor c S H → EnvR c H ρ σ → H a = none → Relx c H fs d → SP c H W D (su fs ρ S) →
    ts a (.ref (He.ga K C)) d { nx := fun σ' H' => D.nx (σ'.set i none) H', rt := D.rt, bk := fun σ' H' => D.bk (σ'.set i none) H', ct := fun σ' H' => D.ct (σ'.set i none) H' } (σ.set i (some (.ref a))) H
/-- C alone is caught -/
def dTryAs (C : Str) (ds : DS) (su : List (Str × AV) → DS) : DS := fun ρ S => match ds ρ S with
  | .go (.xc ρ1 (.exc n fs)) S1 => if n = C then su fs ρ1 S1 else .bad
  | .go (.xc _ _) _ => .bad
  | r => r
theorem ss_tryAs {tb : WX → TS} {ds : DS} {cc : Value} {i : Nat} {ts : Addr → Value → Option Addr → TS} {Wout : WX} {C : Str} {su : List (Str × AV) → DS} (hm : PySem.W.exmOne K (.ref (He.ga K C)) cc = some true) (h : ∀ W' : WX, SS W' K (tb W') ds) (hs : SuiteOk K W C i ts su) :
    SS W K (fun D σ H => tb (wAs K cc i ts Wout D) D σ H) (dTryAs C ds su) := by
  intro ρ S c σ H D hK k e p
  refine h _ ρ S c σ H D hK k e ?_
  unfold dTryAs at p
  cases q : ds ρ S with
  | bad =>
    rw [q] at p
    exact p
  | go fl S1 =>
    rw [q] at p
    cases fl with
    | nx ρ1 => exact p
    | rt v => exact p
    | bk ρ1 => exact p
    | ct ρ1 => exact p
    | xc ρ1 ev =>
      cases ev with
      | exc n fs =>
        simp only at p
        split at p
        next hn =>
          subst hn
          show FallS c H (wAs K cc i ts Wout D) ρ1 (.exc n fs) S1
          intro c1 H1 σ1 cls d n1 k1 e1 re
          obtain ⟨rfl, rx⟩ := re
          have hK1 := n1.K.trans hK
          rw [hK1]
          exact ⟨true, hm, fun _ a ha => hs ρ1 S1 c1 σ1 H1 D a fs d hK1 k1 e1 ha rx (p.nxt n1), fun z => by cases z⟩
        next => exact False.elim p
      | _ => exact False.elim p
theorem EnvR.set2 {ρ : Env} {σ : L2.St} {i j : Nat} {x : AV} {v u : V} (e : EnvR c H ρ σ) (r : Rel c H x v) (hij : i ≠ j) : EnvR c H ((ρ.set j (some x)).set i none) (((σ.set i (some u)).set j (some v)).set i none) := by
  have : ((σ.set i (some u)).set j (some v)).set i none = (σ.set j (some v)).set i none := by
    rw [List.set_comm _ _ hij, List.set_set]
  rw [this]
  exact (e.set r).clear
/-- except C as e: x = ("s", e.f) -/
def suPair (f s : Str) (i j : Nat) : List (Str × AV) → DS := fun fs ρ S => if i < ρ.length then (match fs.lookup f with
  | some v => .go (.nx ((ρ.set j (some (.tup true [.str s, v]))).set i none)) S
  | none => .bad) else .bad
/-- except C as e: return ("s", e.f) -/
def suRet (f s : Str) (i : Nat) : List (Str × AV) → DS := fun fs ρ S => if i < ρ.length then (match fs.lookup f with
  | some v => .go (.rt (.tup true [.str s, v])) S
  | none => .bad) else .bad
theorem su_one {C f s : Str} {i : Nat} {σ : L2.St} {fs : List (Str × AV)} {d : Option Addr} {a : Addr} {v : AV} {Q : VK} (hs : SOk s) (rx : Relx c H fs d) (hv : fs.lookup f = some v) (hlen : i < σ.length)
    (q : ∀ p u o, H p = none → o.cls = .type "tuple" → o.dict = none → Rel c H v u → Q (.ref p) (upd H p (.frz o (.tup [.str s, u])))) :
    tTupF (tCons (tC (.str s)) (tCons (tXf a (.ref (He.ga K C)) d (He.ga K C) f (tVar i)) tNil)) (σ.set i (some (.ref a))) H Q := by
  cases rx with
  | nil => cases hv
  | @some dd _ gs hd ho rf =>
    obtain ⟨u, hu, ru⟩ := rf.look hv
    exact ⟨V.ref a, List.getElem?_set_self hlen, rfl, rfl, dd, gs, u, rfl, hd, hu, (by show 2 ≤ sizeLine; rw [sizeLine_eq]; decide), fun p o hp e1 e2 => q p u o hp e1 e2 ru⟩
theorem su_pair {C f s : Str} {i j : Nat} (hs : SOk s) (hij : i ≠ j) :
    SuiteOk K W C i (fun a cls d => tAsg (tTupF (tCons (tC (.str s)) (tCons (tXf a cls d (He.ga K C) f (tVar i)) tNil))) (gName j)) (suPair f s i j) := by
  intro ρ S c σ H D a fs d hK k e ha rx p
  unfold suPair at p
  split at p
  next hl =>
    split at p
    next v hv =>
      refine su_one hs rx hv (by rw [← e.1]; exact hl) fun q u o hq e1 e2 ru => ?_
      have n := Nxt.new (c := c) (o := .frz o (.tup [.str s, u])) hq
      have r := new_tupF (c := c) hq e1 e2 (.cons (.str hs) (.cons ru .nil))
      exact (show GoodN c H D.nx _ S from p) c _ _ n (k.new hq) ((e.nxt n).set2 r hij)
    next => exact False.elim p
  next => exact False.elim p
theorem su_ret {C f s : Str} {i : Nat} (hs : SOk s) :
    SuiteOk K W C i (fun a cls d => tRet (tTupF (tCons (tC (.str s)) (tCons (tXf a cls d (He.ga K C) f (tVar i)) tNil)))) (suRet f s i) := by
  intro ρ S c σ H D a fs d hK k e ha rx p
  unfold suRet at p
  split at p
  next hl =>
    split at p
    next v hv =>
      refine su_one hs rx hv (by rw [← e.1]; exact hl) fun q u o hq e1 e2 ru => ?_
      have n := Nxt.new (c := c) (o := .frz o (.tup [.str s, u])) hq
      have r := new_tupF (c := c) hq e1 e2 (.cons (.str hs) (.cons ru .nil))
      exact (show Good c H D.rt _ S from p) c _ _ n (k.new hq) r
    next => exact False.elim p
  next => exact False.elim p
end
section
variable {P : Program} {w : World} {K : PySem.W.Frag} {mg : Str → Option Value} {base : Heap}
/-- what is wanted where e.f is read -/
structure XfN (K : PySem.W.Frag) (C f : Str) : Prop where
  xf : XfC K (He.ga K C)
  nf : PySem.W.findIn K (.ref (He.ga K C)) f = some none
  em : PySem.W.exmOne K (.ref (He.ga K C)) (.ref (He.ga K C)) = some true
end
end Dl
set_option Elab.async false
set_option linter.all false
set_option maxRecDepth 100000
set_option maxHeartbeats 4000000
namespace Dl
open PySem PySem.Spec PyProof.Rows L2 Evl Cm
/-! ### == by the class's own __eq__ -/
def rEqO (C : Addr) (sp : Sp) (E : XK) : V → V → Hp → VK → Prop := fun x y H Q => ∃ (a b dx dy : Addr) (fs gs : List (Str × V)), x = .ref a ∧ y = .ref b ∧ H a = some (.ins C dx fs) ∧ H b = some (.ins C dy gs) ∧ sp [.ref a, .ref b] H (fun v H2 => ∃ t : Bool, v = .bl t ∧ Q (.bl t) H2) E
section
variable {X : Cx} {CX : CXT} {C f : Addr} {fd : FuncData} {ps : List Str} {sp : Sp} {k : Nat}
theorem op_eqO {E : XK} (hm : Meth X.K C "__eq__" f) (F : FnOk X.prog X.w X.K X.mg X.base CX k f fd ps sp) (hr : Room k X.A) (hb : Binds X.K fd ps []) (hx : ∀ σ, PassesAt CX X σ E) : OpR X (compareOp .Eq) (rEqO C sp E) := by
  intro pins s σ H x y v u Q I rx ry h
  obtain ⟨a, b, dx, dy, fs, gs, rfl, rfl, ha, hb', q⟩ := h
  cases rx
  cases ry
  show wpAny (model X.prog X.w) X.A (richCompare .Eq (.ref a) (.ref b)) (EP X pins σ Q) X.xe s
  obtain ⟨mA, J, _⟩ := ins_get I.hok ha
  obtain ⟨mB, J', _⟩ := ins_get I.hok hb'
  obtain ⟨od, J, _⟩ := J.look
  obtain ⟨od', J', _⟩ := J'.look
  obtain ⟨m, hF⟩ := I.fr
  refine PySem.W.cmp_K (op := .Eq) (tb := .ref C) hr.units0 hF I.ok.mod.kin J J'.type (by simp [PySem.W.notFirst]) hm.at_ hm.fn ?_
  refine wpAny_mono (run_in1 (vs := [.ref a, .ref b]) F hr I.env0 hb (hx σ) I (.cons rfl (.cons rfl .nil)) q) (fun r s' hq => ?_) fun _ _ y => y
  obtain ⟨z, H2, I2, rv, t, rfl, q2⟩ := hq
  obtain rfl : r = Value.bool t := rv
  exact ⟨.bl t, H2, I2, rfl, q2⟩
end
section
variable {W : WX} {K : PySem.W.Frag} {c c' : Co} {S : Store} {H H' : Hp} {x y z : AV} {u v : V} {ta tb : TE} {da db : DE}
def fEqO (C : Str) (F : FD) (x y : AV) (S : Store) : Res AV := match fsOf S x, fsOf S y with
  | some (cn, _), some (cm, _) => if cn = C ∧ cm = C then (F [x, y] S).nox.bind fun r S2 => ofO ((asB r).map .bl) S2 else .bad
  | _, _ => .bad
def dEqO (C : Str) (F : FD) (da db : DE) : DE := fun ρ S => (da ρ S).bind fun x S1 => (db ρ S1).bind fun y S2 => fEqO C F x y S2
theorem se_eqO {C : Str} {F : FD} (ha : SE W K ta da) (hb : SE W K tb db) : SE W K (tOp (rEqO (He.ga K C) (conc K 2 F) xNo) ta tb) (dEqO C F da db) := by
  intro ρ S c σ H Q hK k e h
  refine ha ρ S c σ H _ hK k e (Res.post_mono (Res.post_bind.mp h) (fun x S1 h1 => ?_) fun _ _ z => z)
  intro c1 H1 u n1 k1 rx
  have hK1 := n1.K.trans hK
  refine hb ρ S1 c1 σ H1 _ hK1 k1 (e.nxt n1) (Res.post_mono (Res.post_bind.mp h1) (fun y S2 h2 => ?_) fun _ _ z => z.nxt n1)
  intro c2 H2 v n2 k2 ry
  have hK2 := n2.K.trans hK1
  unfold fEqO at h2
  split at h2
  next cn fs cm gs q1 q2 =>
    split at h2
    next hc =>
      obtain ⟨rfl, rfl⟩ := hc
      obtain ⟨a, dx, us, rfl, h3, rf⟩ := fsOf_at k2 (rx.nxt n2) q1
      obtain ⟨b, dy, ws, rfl, h4, rg⟩ := fsOf_at k2 ry q2
      rw [hK2] at h3 h4
      refine ⟨a, b, dx, dy, us, ws, rfl, rfl, h3, h4, c2, S2, [x, y], hK2, k2, .cons (rx.nxt n2) (.cons ry .nil), rfl, nox_fall (Res.post_mono (Res.post_bind.mp h2) (fun r2 S3 h5 => ?_) fun _ _ z => z) _⟩
      intro c3 H3 w n3 k3 rv
      obtain ⟨z, hz, g⟩ := ofO_post h5
      obtain ⟨t, hb2, rfl⟩ := Option.map_eq_some_iff.mp hz
      obtain rfl := asB_at rv hb2
      exact ⟨t, rfl, g c3 H3 _ ((n1.trans n2).trans n3) k3 (.bl _)⟩
    next => exact False.elim h2
  next => exact False.elim h2
/-! ### isinstance(x, C) of an object of C -/
structure IsC (K : PySem.W.Frag) (C : Str) : Prop where
  cl : Cls K (He.ga K C)
  ca : PySem.W.findIn K (.ref (He.ga K C)) "__class__" = some (some (.builtin "object.__class__"))
  ob : Obc K
  mo : PySem.W.mroIn K (He.ga K C) (.type "object") = some true
  kt : PySem.W.kitOne K (.ref (He.ga K C)) (.ref (He.ga K C)) = some true
def dIsC (C : Str) (da : DE) : DE := fun ρ S => (da ρ S).bind fun x S1 => match fsOf S1 x with
  | some (cn, _) => if cn = C then .ok (.bl true) S1 else .bad
  | none => .bad
theorem se_isC {C : Str} (I : IsC K C) (ha : SE W K ta da) : SE W K (tCB (rIsi K) (tCons ta (tCons (tC (.ref (He.ga K C))) tNil))) (dIsC C da) := by
  intro ρ S c σ H Q hK k e h
  refine ha ρ S c σ H _ hK k e (Res.post_mono (Res.post_bind.mp h) (fun x S1 h1 => ?_) fun _ _ z => z)
  intro c1 H1 u n1 k1 r1
  split at h1
  next cn fs q =>
    split at h1
    next hc =>
      subst hc
      obtain ⟨a, dx, gs, rfl, h3, rf⟩ := fsOf_at k1 r1 q
      rw [n1.K.trans hK] at h3
      exact ⟨.ref a, .ref (He.ga K cn), .ref (He.ga K cn), .ref (He.ga K cn), true, rfl, .own _, .base (.ins h3 I.cl I.ca I.ob.hn I.ob.ht I.mo), I.kt, (show Good c H Q (.bl true) S1 from h1) c1 H1 _ n1 k1 (.bl _)⟩
    next => exact False.elim h1
  next => exact False.elim h1
end
/-! ### tuples of which nothing is said but their items -/
def lowT : AV → AV
  | .tup _ xs => .tup false xs
  | x => x
theorem Rel.low {c : Co} {H : Hp} : ∀ {x : AV} {v : V}, Rel c H x v → Rel c H (lowT x) v
  | .tup p xs, _, .tup h _ r => .tup h (fun z => by cases z) r
  | .non, _, r => r
  | .bl _, _, r => r
  | .int _, _, r => r
  | .str _, _, r => r
  | .lst _, _, r => r
  | .dic _, _, r => r
  | .obj _ _, _, r => r
  | .exc _ _, _, r => r
  | .ref _, _, r => r
  | .opq _, _, r => r
def fTupL (xs : List AV) (S : Store) : Option AV := (fTuple xs S).map lowT
theorem sc_tupL {K : PySem.W.Frag} : SCn K (rTupF K) fTupL := by
  intro xs z S c us H Q hK k rs e q
  obtain ⟨y, hy, rfl⟩ := Option.map_eq_some_iff.mp e
  exact sc_tuple xs y S c us H Q hK k rs hy fun c1 H1 v n1 k1 r => q c1 H1 v n1 k1 r.low
theorem ev_tupL {ρ : Env} {S S1 : Store} {dA : DA} {xs : List AV} (hA : dA ρ S = .ok xs S1) (hl : xs.length ≤ lim) : dTup dA ρ S = .ok (.tup false xs) S1 := by
  unfold dTup
  rw [hA, Res.bind_ok, if_pos hl]
end Dl
set_option Elab.async false
set_option linter.all false
set_option maxRecDepth 100000
set_option maxHeartbeats 4000000
namespace HT
open PySem PySem.Spec PyProof.Rows PySem.W
section
variable {prog : Program} {w : World} {A : Around} {E : Value → Shared → Prop} {s : Shared}
theorem adjust_rev (n : Nat) : Builtin.Slice.sliceAdjust none none (-1) (n : Int) = ((n : Int) - 1, -1) := rfl
theorem places_rev (n : Nat) : Builtin.Slice.slicePlaces ((n : Int) - 1) (-1) (-1) = n := by
  unfold Builtin.Slice.slicePlaces
  rw [if_neg (by decide)]
  by_cases h : (n : Int) - 1 > -1
  · rw [if_pos h, show (- -1 : Int) = 1 by decide, Int.ediv_one]
    omega
  · rw [if_neg h]
    omega
theorem sliceApplied_rev {sl : Addr} {vl vu vs : Value} {n : Nat} {Q : Int × Int × Nat → Shared → Prop} (hs : s.heap.IsSliceOf sl vl vu vs) (pl : IsPart vl none) (pu : IsPart vu none) (ps : IsPart vs (some (-1)))
    (h : Q ((n : Int) - 1, -1, n) s) : wpAny (model prog w) A (Builtin.Slice.sliceApplied (.ref sl) (pure (n : Int))) Q E s := by
  obtain ⟨os, hos, hcs, hds⟩ := id hs
  unfold Builtin.Slice.sliceApplied Builtin.Slice.sliceFields
  refine wpAny_bind (wpAny_bind (wpAny_field hos hds (x := vl) rfl (wpAny_bind (wpAny_field hos hds (x := vu) rfl (wpAny_bind (wpAny_field hos hds (x := vs) rfl (wpAny_pure ?_)))))))
  refine wpAny_bind (slicePart_ ps ?_)
  show wpAny _ _ (if ((-1 : Int) == 0) = true then _ else _) _ _ s
  rw [if_neg (by decide)]
  refine wpAny_bind (slicePart_ pl (wpAny_bind (slicePart_ pu (wpAny_bind (wpAny_pure ?_)))))
  show wpAny _ _ (match Builtin.Slice.sliceAdjust none none (-1) (n : Int) with | (lo, hi) => pure (lo, (-1 : Int), Builtin.Slice.slicePlaces lo hi (-1))) _ _ s
  rw [adjust_rev n]
  show wpAny _ _ (pure ((n : Int) - 1, (-1 : Int), Builtin.Slice.slicePlaces ((n : Int) - 1) (-1) (-1))) _ _ s
  rw [places_rev]
  exact wpAny_pure h
theorem pick_rev (xs : Array Value) : ((List.range xs.size).filterMap fun (m : Nat) => xs[(((xs.size : Nat) : Int) - 1 + (m : Int) * (-1)).toNat]?).toArray = xs.toList.reverse.toArray := by
  have e : (fun (m : Nat) => xs[(((xs.size : Nat) : Int) - 1 + (m : Int) * (-1)).toNat]?) = (fun k => xs[k]?) ∘ fun m => xs.size - 1 - m := by
    funext m
    show xs[_]? = xs[xs.size - 1 - m]?
    have : (((xs.size : Nat) : Int) - 1 + (m : Int) * (-1)).toNat = xs.size - 1 - m := by omega
    rw [this]
  rw [e, ← List.filterMap_map, krv_range, List.filterMap_reverse, krv_all]
theorem getItem_tuple_rev {t sl : Addr} {items : Array Value} {vl vu vs : Value} {Q : Value → Shared → Prop} (ht : IsTup s.heap t items) (hs : s.heap.IsSliceOf sl vl vu vs) (pl : IsPart vl none) (pu : IsPart vu none) (ps : IsPart vs (some (-1)))
    (h : Q (.ref s.heap.objs.size) { s with heap := s.heap.push { cls := .type "tuple", data := .seq items.toList.reverse.toArray } })
    (hsz : items.size ≤ sizeLine) : wpAny (model prog w) A (getItem (.ref t) (.ref sl)) Q E s := by
  have htake : sizeOk (.seq items.toList.reverse.toArray) := by
    show items.toList.reverse.toArray.size ≤ sizeLine
    rw [List.size_toArray, List.length_reverse, Array.length_toList]
    exact hsz
  obtain ⟨os, hos, hcs, hds⟩ := id hs
  have hTs : s.TypeIs (.ref sl) "slice" := ⟨os, hos, hcs⟩
  unfold getItem
  try with_reducible refine wpAny_holding ?_
  first | refine wpAny_bind (wpAny_pure ?_) | skip
  refine wpAny_bind (wpAny_sequenceKey ht.typeIs (by decide) ?_)
  refine wpAny_bind (wpAny_callSpecial?_slot (name := Str.ofString "__getitem__") ht.typeIs PyProof.Rows.slot_tuple_getitem
    (wpAny_call_entry PyProof.Rows.slot_tuple_getitem ht.typeIs entry_tuple_getitem ?_ (args_tuple_getitem _ _)))
  show wpAny _ _ (Builtin.Tuple.tupleItemsOf (.ref t) >>= _) _ _ s
  refine wpAny_bind (tupleItemsOf_ ht ?_)
  refine wpAny_bind (wpAny_typeOf hTs ?_)
  rw [if_pos (by decide)]
  refine wpAny_bind (sliceApplied_rev hs pl pu ps ?_)
  have hno : ¬ (((((items.size : Nat) : Int) - 1) == 0 && (-1 : Int) == 1 && items.size == items.size) = true) := by
    intro q
    rw [Bool.and_eq_true, Bool.and_eq_true] at q
    exact absurd (eq_of_beq q.1.2) (by decide)
  show wpAny _ _ (if ((((items.size : Nat) : Int) - 1) == 0 && (-1 : Int) == 1 && items.size == items.size) = true then _ else _) _ _ s
  rw [if_neg hno, pick_rev]
  first
    | exact wpAny_bind (m := Builtin.Tuple.tupleExact _) (wpAny_newObj_type (wpAny_pure ⟨_, rfl, wpAny_pure h⟩) htake)
    | exact wpAny_bind (m := Builtin.Tuple.tupleExact _) (wpAny_newObj_type (wpAny_bind (wpAny_pure (wpAny_pure ⟨_, rfl, wpAny_pure h⟩))) htake)
    | exact wpAny_bind (wpAny_bind (m := Builtin.Tuple.tupleExact _) (wpAny_newObj_type (wpAny_pure (wpAny_pure ⟨_, rfl, wpAny_pure h⟩)) htake))
    | exact wpAny_bind (wpAny_bind (m := Builtin.Tuple.tupleExact _) (wpAny_newObj_type (wpAny_pure ⟨_, rfl, wpAny_pure h⟩) htake))
end
end HT
namespace Dl
open PySem PySem.Spec PyProof.Rows L2 Evl Cm
/-! ### t[::-1], a tuple -/
def tRevT (K : PySem.W.Frag) (te : TE) : TE := fun σ H Q => te σ H fun x H1 => ∃ a xs, x = .ref a ∧ SqT K H1 a xs ∧ ∀ p, H1 p = none → Q (.ref p) (upd H1 p (.tup xs.reverse))
section
variable {X : Cx}
theorem pe_revT {e : Expr} {te : TE} {k : Nat} {p1 p2 p3 pos : Pos} (he : PE X e te) : PE X (.Subscript e (.Slice none none (some (.UnaryOp .USub (.Constant (.int 1) k p1) p2)) p3) pos) (tRevT X.K te) := by
  refine ⟨fun pins s σ H Q I h => ?_⟩
  refine Subscript_ (thn (he.run pins s σ H _ I h) fun v s1 ⟨x, H1, I1, r1, q1⟩ => ?_)
  obtain ⟨a, xs, ex, hx, q⟩ := q1
  subst ex
  cases r1
  have hst : PO X (some (.UnaryOp .USub (.Constant (.int 1) k p1) p2)) (tPart (tUn (rU fun i => .int (-i)) (tC (.int 1)))) := po_some (pe_un un_neg pe_int)
  refine wpAny_Slice (thn (po_none.run pins s1 σ H1 (fun o H2 => o = none ∧ H2 = H1) I1 ⟨rfl, rfl⟩) fun vl s2 ⟨l, H2, I2, pl, el, e2⟩ => ?_)
  subst el e2
  refine thn (po_none.run pins s2 σ H2 (fun o H3 => o = none ∧ H3 = H2) I2 ⟨rfl, rfl⟩) fun vu s3 ⟨u, H3, I3, pu, eu, e3⟩ => ?_
  subst eu e3
  refine thn (hst.run pins s3 σ H3 (fun o H4 => o = some (-1) ∧ H4 = H3) I3 ⟨1, rfl, -1, rfl, rfl, rfl⟩) fun vs s4 ⟨o, H4, I4, ps, eo, e4⟩ => ?_
  subst eo e4
  have I5 : Inv X pins σ H4 { s4 with heap := s4.heap.push { cls := .type "slice", data := .fields #[vl, vu, vs] } } := I4.kept (t' := s4.toks) fun b ob q => Heap.get?_push_of_some _ q
  obtain ⟨its, r, ht, hz⟩ := I5.tuple hx
  have hlen := r.length
  show wpAny (model X.prog X.w) X.A (subscriptTail e (.Slice none none (some (.UnaryOp .USub (.Constant (.int 1) k p1) p2)) p3) (.ref a) (.ref s4.heap.objs.size)) (EP X pins σ Q) X.xe { s4 with heap := s4.heap.push { cls := .type "slice", data := .fields #[vl, vu, vs] } }
  refine tail_any (ops := [.ref a, .ref s4.heap.objs.size]) ht.typeIs PyProof.Rows.slot_tuple_getitem.lookup ?_ (by with_unfolding_all rfl)
  refine HT.getItem_tuple_rev ht (Heap.IsSliceOf.new _ vl vu vs) pl pu ps ?_ (by rw [List.size_toArray]; omega)
  refine ⟨.ref _, _, I5.laid (t' := s4.toks) (o := .tup xs.reverse) (fun b ob q => Heap.get?_push_of_some _ q) (Nat.le_refl _) ?_, rfl, q _ (I5.hok.fresh (Nat.le_refl _))⟩
  exact ⟨by rw [List.length_reverse]; exact hz, _, r.reverse, IsTup.new _ _⟩
end
section
variable {W : WX} {K : PySem.W.Frag} {te : TE} {de : DE}
theorem k_revT {X : Cx} (hK : X.K = K) {e : Expr} {te : TE} {k : Tok} {p1 p2 p3 pos : Pos} (h : PE X e te) : PE X (.Subscript e (.Slice none none (some (.UnaryOp .USub (.Constant (.int 1) k p1) p2)) p3) pos) (tRevT K te) := hK ▸ pe_revT h
def dTRev (da : DE) : DE := fun ρ S => (da ρ S).bind fun x S1 => match x with
  | .tup _ xs => .ok (.tup false xs.reverse) S1
  | _ => .bad
theorem se_trev {da : DE} (ha : SE W K te da) : SE W K (tRevT K te) (dTRev da) := by
  intro ρ S c σ H Q hK k e h
  refine ha ρ S c σ H _ hK k e (Res.post_mono (Res.post_bind.mp h) (fun x S1 h1 => ?_) fun _ _ z => z)
  intro c1 H1 u n1 k1 r1
  have hK1 : c1.K = K := n1.K.trans hK
  split at h1
  · cases r1 with
    | tup hs hp rs =>
      refine ⟨_, _, rfl, hK1 ▸ hs, fun p hp => ?_⟩
      exact h1 c1 _ _ (n1.trans (Nxt.new hp)) (k1.new hp) (new_tup hp rs.rev)
  · exact False.elim h1
theorem ev_trev {ρ : Env} {S S1 : Store} {da : DE} {p : Bool} {xs : List AV} (ha : da ρ S = .ok (.tup p xs) S1) : dTRev da ρ S = .ok (.tup false xs.reverse) S1 := by
  unfold dTRev
  rw [ha, Res.bind_ok]
end
end Dl
set_option Elab.async false
set_option linter.all false
set_option maxRecDepth 100000
set_option maxHeartbeats 4000000
namespace Dn
open PySem PySem.Spec PyProof.Rows L2 Evl Cm Dl
open My (top)
section
variable {P : Program} {w : World} {K : PySem.W.Frag} {mg : Str → Option Value} {base : Heap}
abbrev s_is_integer : Stmt := top 3
abbrev N_is_integer : List Str := ["value"]
theorem sc_is_integer : FnScope N_is_integer ["value"] (defScope s_is_integer) := ⟨rfl, rfl, rfl, by decide +kernel, rfl, by decide +kernel, by decide +kernel⟩
def d_is_integer : DS := (dRet (dAndV (dIsi "int" (dVar 0)) (dNotV (dIsi "bool" (dVar 0)))))
def F_is_integer : FD := runD (d_is_integer) 1
theorem dn_is_integer (T : TxN mg)
    {f : Addr} {fd : FuncData} (F : Fun K "is_integer" "is_integer" s_is_integer f fd) : FnOk P w K mg base (L2.CX P w) 1 f fd ["value"] (conc K 1 (F_is_integer)) :=
  fun_den (k := 0) (ps := ["value"]) F sc_is_integer (fun cdv A outer s H E hr => ⟨_,
  (pss_one (ps_ret (pe_and (pe_callB (k_isi rfl) (by rfl) T.b_isinstance (by decide +kernel) (pa_cons (pv 0) (pa_cons (pe_bltn (v := .ty "int") (by rfl) T.b_int (by decide +kernel) rfl) pa_nil))) (pe_one (pe_not (pe_callB (k_isi rfl) (by rfl) T.b_isinstance (by decide +kernel) (pa_cons (pv 0) (pa_cons (pe_bltn (v := .ty "bool") (by rfl) T.b_bool (by decide +kernel) rfl) pa_nil)))))))),
  (ss_ret (se_andV (se_isi bt_int se_var) (se_notV (se_isi bt_bool se_var))))⟩)

abbrev s_is_index : Stmt := top 4
abbrev N_is_index : List Str := ["value", "many"]
theorem sc_is_index : FnScope N_is_index ["value", "many"] (defScope s_is_index) := ⟨rfl, rfl, rfl, by decide +kernel, rfl, by decide +kernel, by decide +kernel⟩
def d_is_index : DS := (dRet (dAndV (dCall 1 F_is_integer (dCons (dVar 0) dNil)) (dChain fLe fLt (dC (.int 0)) (dVar 0) (dVar 1))))
def F_is_index : FD := runD (d_is_index) 2
theorem dn_is_index (T : TxN mg)
    (D_is_integer : DfN P w K mg base 1 "is_integer" ["value"] F_is_integer)
    {f : Addr} {fd : FuncData} (F : Fun K "is_index" "is_index" s_is_index f fd) : FnOk P w K mg base (L2.CX P w) 2 f fd ["value", "many"] (conc K 2 (F_is_index)) :=
  fun_den (k := 1) (ps := ["value", "many"]) F sc_is_index (fun cdv A outer s H E hr => ⟨_,
  (pss_one (ps_ret (pe_and (pe_callS (E := WE (WO E)) D_is_integer.G (hr.mono (by omega)) rfl D_is_integer.m D_is_integer.kp D_is_integer.b (fun σ => passAt (takes_of rfl rfl rfl rfl) σ) (by exact (pa_cons (pv 0) pa_nil))) (pe_one (pe_chain op_le op_lt pe_int (pv 0) (pv 1)))))),
  (ss_ret (se_andV (se_call (sa_cons se_var sa_nil)) (se_chain so_le so_lt se_int se_var se_var)))⟩)

abbrev s_is_tuple : Stmt := top 6
abbrev N_is_tuple : List Str := ["value", "fewest", "most"]
theorem sc_is_tuple : FnScope N_is_tuple ["value", "fewest", "most"] (defScope s_is_tuple) := ⟨rfl, rfl, rfl, by decide +kernel, rfl, by decide +kernel, by decide +kernel⟩
def d_is_tuple : DS := (dRet (dAndV (dIsi "tuple" (dVar 0)) (dChain fLe fLe (dVar 1) (dCB fLen (dCons (dVar 0) dNil)) (dVar 2))))
def F_is_tuple : FD := runD (d_is_tuple) 3
theorem dn_is_tuple (T : TxN mg)
    {f : Addr} {fd : FuncData} (F : Fun K "is_tuple" "is_tuple" s_is_tuple f fd) : FnOk P w K mg base (L2.CX P w) 1 f fd ["value", "fewest", "most"] (conc K 3 (F_is_tuple)) :=
  fun_den (k := 0) (ps := ["value", "fewest", "most"]) F sc_is_tuple (fun cdv A outer s H E hr => ⟨_,
  (pss_one (ps_ret (pe_and (pe_callB (k_isi rfl) (by rfl) T.b_isinstance (by decide +kernel) (pa_cons (pv 0) (pa_cons (pe_bltn (v := .ty "tuple") (by rfl) T.b_tuple (by decide +kernel) rfl) pa_nil))) (pe_one (pe_chain op_le op_le (pv 1) (pe_callB (k_len rfl) (by rfl) T.b_len (by decide +kernel) (pa_cons (pv 0) pa_nil)) (pv 2)))))),
  (ss_ret (se_andV (se_isi bt_tuple se_var) (se_chain so_le so_le se_var (se_cb sc_len (sa_cons se_var sa_nil)) se_var)))⟩)

abbrev s_Graph___len__ : Stmt := inClass (top 38) 5
abbrev N_Graph___len__ : List Str := ["self"]
theorem sc_Graph___len__ : FnScope N_Graph___len__ ["self"] (defScope s_Graph___len__) := ⟨rfl, rfl, rfl, by decide +kernel, rfl, by decide +kernel, by decide +kernel⟩
def d_Graph___len__ : DS := (dRet (dCB fLen (dCons (dFld "names" ["Graph"] (dVar 0)) dNil)))
def F_Graph___len__ : FD := runD (d_Graph___len__) 1
theorem dn_Graph___len__ (T : TxN mg)
    (hf_names : HasF K "names" ["Graph"])
    {f : Addr} {fd : FuncData} (F : Fun K "__len__" "Graph.__len__" s_Graph___len__ f fd) : FnOk P w K mg base (L2.CX P w) 1 f fd ["self"] (conc K 1 (F_Graph___len__)) :=
  fun_den (k := 0) (ps := ["self"]) F sc_Graph___len__ (fun cdv A outer s H E hr => ⟨_,
  (pss_one (ps_ret (pe_callB (k_len rfl) (by rfl) T.b_len (by decide +kernel) (pa_cons (k_fld rfl (pv 0)) pa_nil)))),
  (ss_ret (se_cb sc_len (sa_cons (se_fld hf_names se_var) sa_nil)))⟩)

abbrev s_Graph___contains__ : Stmt := inClass (top 38) 6
abbrev N_Graph___contains__ : List Str := ["self", "x"]
theorem sc_Graph___contains__ : FnScope N_Graph___contains__ ["self", "x"] (defScope s_Graph___contains__) := ⟨rfl, rfl, rfl, by decide +kernel, rfl, by decide +kernel, by decide +kernel⟩
def d_Graph___contains__ : DS := (dRet (dOp (fIn false) (dVar 1) (dFld "names" ["Graph"] (dVar 0))))
def F_Graph___contains__ : FD := runD (d_Graph___contains__) 2
theorem dn_Graph___contains__ (T : TxN mg)
    (hf_names : HasF K "names" ["Graph"])
    {f : Addr} {fd : FuncData} (F : Fun K "__contains__" "Graph.__contains__" s_Graph___contains__ f fd) : FnOk P w K mg base (L2.CX P w) 1 f fd ["self", "x"] (conc K 2 (F_Graph___contains__)) :=
  fun_den (k := 0) (ps := ["self", "x"]) F sc_Graph___contains__ (fun cdv A outer s H E hr => ⟨_,
  (pss_one (ps_ret (pe_cmpR (k_in rfl (u65 hr)) (pv 1) (k_fld rfl (pv 0)) (by rfl)))),
  (ss_ret (se_op so_in se_var (se_fld hf_names se_var)))⟩)

abbrev s_is_sources : Stmt := top 16
abbrev N_is_sources : List Str := ["graph", "value", "limits", "_", "editions", "number", "limit"]
theorem sc_is_sources : FnScope N_is_sources ["graph", "value"] (defScope s_is_sources) := ⟨rfl, rfl, rfl, by decide +kernel, rfl, by decide +kernel, by decide +kernel⟩
def d_is_sources : DS := (dSeq (dIfS (dNot (dTest (dCall 3 F_is_tuple (dCons (dVar 1) (dCons (dLenO "Graph" F_Graph___len__ (dCons (dVar 0) dNil)) (dCons (dLenO "Graph" F_Graph___len__ (dCons (dVar 0) dNil)) dNil)))))) (dRet (dC (.bl false))) dNext)
  (dSeq (dAsg (dFz (dlLc (diAny (dFld "modules" ["Graph"] (dVar 0))) (dgTup 2 (dgCons (dgName 3) (dgCons (dgName 4) dgNil))) dYes (dCB fLen (dCons (dVar 4) dNil)) [3, 4])) (dgName 2))
  (dRet (dCB fAll (dCons (dFz (dlLc (diZip (dCons (dVar 1) (dCons (dVar 2) dNil))) (dgTup 2 (dgCons (dgName 5) (dgCons (dgName 6) dgNil))) dYes (dCall 2 F_is_index (dCons (dVar 5) (dCons (dVar 6) dNil))) [5, 6])) dNil)))))
def F_is_sources : FD := runD (d_is_sources) 7
theorem dn_is_sources (T : TxN mg)
    (M_Graph___len__ : MdN P w K mg base 1 "Graph" "__len__" ["self"] F_Graph___len__)
    (D_is_tuple : DfN P w K mg base 1 "is_tuple" ["value", "fewest", "most"] F_is_tuple)
    (hf_modules : HasF K "modules" ["Graph"])
    (D_is_index : DfN P w K mg base 2 "is_index" ["value", "many"] F_is_index)
    {f : Addr} {fd : FuncData} (F : Fun K "is_sources" "is_sources" s_is_sources f fd) : FnOk P w K mg base (L2.CX P w) 3 f fd ["graph", "value"] (conc K 2 (F_is_sources)) :=
  fun_den (k := 2) (ps := ["graph", "value"]) F sc_is_sources (fun cdv A outer s H E hr => ⟨_,
  (pss_cons (ps_if (pt_not (pt_val (pe_callS (E := WE (WO E)) D_is_tuple.G (hr.mono (by omega)) rfl D_is_tuple.m D_is_tuple.kp D_is_tuple.b (fun σ => passAt (takes_of rfl rfl rfl rfl) σ) (by exact (pa_cons (pv 1) (pa_cons (pe_callB (cr_lenO (k := 1) (E := xNo) (σ0 := []) M_Graph___len__.M M_Graph___len__.G (hr.mono (by omega)) M_Graph___len__.b (fun σ => pass_no σ)) (by rfl) T.b_len (by decide +kernel) (pa_cons (pv 0) pa_nil)) (pa_cons (pe_callB (cr_lenO (k := 1) (E := xNo) (σ0 := []) M_Graph___len__.M M_Graph___len__.G (hr.mono (by omega)) M_Graph___len__.b (fun σ => pass_no σ)) (by rfl) T.b_len (by decide +kernel) (pa_cons (pv 0) pa_nil)) pa_nil))))))) (pss_one (ps_ret pe_bl)) pss_nil)
  (pss_cons (ps_setLc (i := 2) (own := [("_", 3), ("editions", 4)]) (g := (gTup K 2 (gCons (gName 3) (gCons (gName 4) gNil)))) (tt := tYes) rfl sc_is_sources.nd rfl rfl (sw_true rfl rfl rfl (by decide +kernel)) (k_each rfl (k_fld rfl (pv 0))) (blkOk_by (own := [("_", 3), ("editions", 4)]) (N := N_is_sources) (sc := defScope s_is_sources) (by decide +kernel)) (fun _ _ _ _ _ => (k_gtup rfl rfl (pgs_cons (pg_name (i := 3) sc_is_sources.nd rfl (Or.inl rfl)) (pgs_cons (pg_name (i := 4) sc_is_sources.nd rfl (Or.inl rfl)) pgs_nil)))) (fun _ _ _ _ _ => pts_nil) (fun _ _ _ _ _ => (pe_callB (k_len rfl) (by rfl) T.b_len (by decide +kernel) (pa_cons (pv 4) pa_nil))))
  (pss_one (ps_ret (pe_callB (k_all rfl rfl) (by rfl) T.b_all (by decide +kernel) (pa_cons (pe_lc (own := [("number", 5), ("limit", 6)]) (g := (gTup K 2 (gCons (gName 5) (gCons (gName 6) gNil)))) (tt := tYes) rfl sc_is_sources.nd (k_zip rfl (by rfl) T.b_zip (pa_cons (pv 1) (pa_cons (pv 2) pa_nil))) (blkOk_by (own := [("number", 5), ("limit", 6)]) (N := N_is_sources) (sc := defScope s_is_sources) (by decide +kernel)) (fun _ _ _ _ _ => (k_gtup rfl rfl (pgs_cons (pg_name (i := 5) sc_is_sources.nd rfl (Or.inl rfl)) (pgs_cons (pg_name (i := 6) sc_is_sources.nd rfl (Or.inl rfl)) pgs_nil)))) (fun _ _ _ _ _ => pts_nil) (fun _ _ _ _ _ => (pe_callS (E := WE W0) D_is_index.G (hr.mono (by omega)) rfl D_is_index.m D_is_index.kp D_is_index.b (fun σ => pass_no σ) (by exact (pa_cons (pv 5) (pa_cons (pv 6) pa_nil)))))) pa_nil)))))),
  (ss_seq (ss_if (st_not (st_B (se_call (sa_cons se_var (sa_cons (se_lenO (sa_cons se_var sa_nil)) (sa_cons (se_lenO (sa_cons se_var sa_nil)) sa_nil)))))) (ss_ret se_bl) ss_next)
  (ss_seq (ss_asg (se_fz (sl_lc (vs := [3, 4]) (si_any (se_fld hf_modules se_var)) (sg_tup (sgs_cons sg_name (sgs_cons sg_name sgs_nil))) (gw_tup (gws_cons gw_name gm_name (gws_cons gw_name gm_name gws_nil gms_nil) (gms_cons gm_name gms_nil))) (gm_tup (gms_cons gm_name (gms_cons gm_name gms_nil))) st_yes (se_cb sc_len (sa_cons se_var sa_nil)))) sg_name)
  (ss_ret (se_cb sc_all (sa_cons (se_fz (sl_lc (vs := [5, 6]) (si_zip (sa_cons se_var (sa_cons se_var sa_nil))) (sg_tup (sgs_cons sg_name (sgs_cons sg_name sgs_nil))) (gw_tup (gws_cons gw_name gm_name (gws_cons gw_name gm_name gws_nil gms_nil) (gms_cons gm_name gms_nil))) (gm_tup (gms_cons gm_name (gms_cons gm_name gms_nil))) st_yes (se_call (sa_cons se_var (sa_cons se_var sa_nil))))) sa_nil)))))⟩)

abbrev s_reached : Stmt := top 17
abbrev N_reached : List Str := ["roots", "links", "seen", "waiting", "number"]
theorem sc_reached : FnScope N_reached ["roots", "links"] (defScope s_reached) := ⟨rfl, rfl, rfl, by decide +kernel, rfl, by decide +kernel, by decide +kernel⟩
def d_reached : DS := (dSeq (dAsg dNewD (dgName 2))
  (dSeq (dAsg (dTh (dlCB flList (dCons (dVar 0) dNil))) (dgName 3))
  (dSeq (whileD (dTru (dVar 3))
  (dSeq (dAsg (dBM "list" fPop (dVar 3) dNil) (dgName 4))
  (dIfS (dAnd (dTest (dOp (fIsN true) (dVar 4) (dC .non))) (dTest (dOp (fIn true) (dVar 4) (dVar 2)))) (dSeq (dDPut (dVar 2) (dVar 4) (dC (.bl true)))
  (dDrop (dBM "list" fExtend (dVar 3) (dCons (dOp fIx (dVar 1) (dVar 4)) dNil)))) dNext)) 200)
  (dRet (dFz (dlSortD (dCons (dVar 2) dNil)))))))
def F_reached : FD := runD (d_reached) 5
theorem dn_reached (T : TxN mg)
    {f : Addr} {fd : FuncData} (F : Fun K "reached" "reached" s_reached f fd) : FnOk P w K mg base (L2.CX P w) 1 f fd ["roots", "links"] (conc K 2 (F_reached)) :=
  fun_den (k := 0) (ps := ["roots", "links"]) F sc_reached (fun cdv A outer s H E hr => ⟨_,
  (pss_cons (ps_asg pe_dnewK (pg_name (i := 2) sc_reached.nd rfl (Or.inl rfl)))
  (pss_cons (ps_asg (pe_callTy (k_list rfl) (by rfl) T.b_list (by decide +kernel) (pa_cons (pv 0) pa_nil)) (pg_name (i := 3) sc_reached.nd rfl (Or.inl rfl)))
  (pss_cons (ps_while (passes_of rfl) (k_truth rfl (pv 3))
  (pss_cons (ps_asg (k_bm0 rfl PySem.F.plainAttrs_list PySem.F.slot_list_pop PySem.F.type_list_pop mt_pop (pv 3)) (pg_name (i := 4) sc_reached.nd rfl (Or.inl rfl)))
  (pss_one (ps_if (PW.pt (pw_and (pt_cmpR op_notN (pv 4) pe_non (nomark _)) (pw_and1 (pt_cmpR (k_notIn rfl (u65 hr)) (pv 4) (pv 2) (by rfl))))) (pss_cons (ps_dputA (u1 hr) (pv 2) (pv 4) pe_bl rfl)
  (pss_one (ps_expr (k_bm rfl PySem.F.plainAttrs_list PySem.F.slot_list_extend PySem.F.type_list_extend mt_extend (pv 3) (pa_cons (pe_ix (k_ix rfl (u65 hr)) (pv 1) (pv 4) (fun _ _ => rfl)) pa_nil))))) pss_nil))))
  (pss_one (ps_ret (pe_callB (call_sortD rfl) (by rfl) T.b_sorted (by decide +kernel) (pa_cons (pv 2) pa_nil))))))),
  (ss_seq (ss_asg se_newD sg_name)
  (ss_seq (ss_asg (se_th (sl_list (sa_cons se_var sa_nil))) sg_name)
  (ss_seq (ss_while 200 (st_truth se_var)
  (ss_seq (ss_asg (se_bm0 se_var sm_pop) sg_name)
  (ss_if (st_and (st_test (se_op so_notN se_var se_non)) (st_test (se_op so_in se_var se_var))) (ss_seq (ss_dput se_var se_var se_bl)
  (ss_drop (se_bm se_var (sa_cons (se_op so_ix se_var se_var) sa_nil) sm_extend))) ss_next)))
  (ss_ret (se_fz (sl_sortD (sa_cons se_var sa_nil)))))))⟩)

abbrev s_Instance___init__ : Stmt := inClass (top 19) 0
abbrev N_Instance___init__ : List Str := ["self", "module", "edition", "word", "holds", "entries"]
theorem sc_Instance___init__ : FnScope N_Instance___init__ ["self", "module", "edition", "word", "holds", "entries"] (defScope s_Instance___init__) := ⟨rfl, rfl, rfl, by decide +kernel, rfl, by decide +kernel, by decide +kernel⟩
def d_Instance___init__ : DS := (dSeq (dSetF "module" ["Instance"] (dVar 1) (dVar 0))
  (dSeq (dSetF "edition" ["Instance"] (dVar 2) (dVar 0))
  (dSeq (dSetF "word" ["Instance"] (dVar 3) (dVar 0))
  (dSeq (dSetF "holds" ["Instance"] (dThD (ddTup (dCons (dVar 4) dNil))) (dVar 0))
  (dSetF "entries" ["Instance"] (dTh (dlCB flList (dCons (dVar 5) dNil))) (dVar 0))))))
def F_Instance___init__ : FD := runD (d_Instance___init__) 6
theorem dn_Instance___init__ (T : TxN mg)
    (hf_module : HasF K "module" ["Instance"])
    (hf_edition : HasF K "edition" ["Instance"])
    (hf_word : HasF K "word" ["Instance"])
    (hf_holds : HasF K "holds" ["Instance"])
    (hf_entries : HasF K "entries" ["Instance"])
    {f : Addr} {fd : FuncData} (F : Fun K "__init__" "Instance.__init__" s_Instance___init__ f fd) : FnOk P w K mg base (L2.CX P w) 1 f fd ["self", "module", "edition", "word", "holds", "entries"] (conc K 6 (F_Instance___init__)) :=
  fun_den (k := 0) (ps := ["self", "module", "edition", "word", "holds", "entries"]) F sc_Instance___init__ (fun cdv A outer s H E hr => ⟨_,
  (pss_cons (k_setF rfl (pv 0) (pv 1))
  (pss_cons (k_setF rfl (pv 0) (pv 2))
  (pss_cons (k_setF rfl (pv 0) (pv 3))
  (pss_cons (k_setF rfl (pv 0) (pe_callTy (k_dictT rfl rfl) (by rfl) T.b_dict (by decide +kernel) (pa_cons (pv 4) pa_nil)))
  (pss_one (k_setF rfl (pv 0) (pe_callTy (k_list rfl) (by rfl) T.b_list (by decide +kernel) (pa_cons (pv 5) pa_nil)))))))),
  (ss_seq (ss_setF hf_module se_var se_var)
  (ss_seq (ss_setF hf_edition se_var se_var)
  (ss_seq (ss_setF hf_word se_var se_var)
  (ss_seq (ss_setF hf_holds (se_thD (sd_tup (sa_cons se_var sa_nil))) se_var)
  (ss_setF hf_entries (se_th (sl_list (sa_cons se_var sa_nil))) se_var)))))⟩)

abbrev s_Instance_links : Stmt := inClass (top 19) 1
abbrev N_Instance_links : List Str := ["self"]
theorem sc_Instance_links : FnScope N_Instance_links ["self"] (defScope s_Instance_links) := ⟨rfl, rfl, rfl, by decide +kernel, rfl, by decide +kernel, by decide +kernel⟩
def d_Instance_links : DS := (dRet (dOp fAdd (dFz (dlListVals (dFld "holds" ["Instance"] (dVar 0)))) (dFld "entries" ["Instance"] (dVar 0))))
def F_Instance_links : FD := runD (d_Instance_links) 1
theorem dn_Instance_links (T : TxN mg)
    (hf_holds : HasF K "holds" ["Instance"])
    (hf_entries : HasF K "entries" ["Instance"])
    {f : Addr} {fd : FuncData} (F : Fun K "links" "Instance.links" s_Instance_links f fd) : FnOk P w K mg base (L2.CX P w) 1 f fd ["self"] (conc K 1 (F_Instance_links)) :=
  fun_den (k := 0) (ps := ["self"]) F sc_Instance_links (fun cdv A outer s H E hr => ⟨_,
  (pss_one (ps_ret (pe_op (k_add rfl) (pe_listVals rfl (k_fld rfl (pv 0)) (by rfl) T.b_list) (k_fld rfl (pv 0))))),
  (ss_ret (se_op so_add (se_fz (sl_listVals (se_fld hf_holds se_var))) (se_fld hf_entries se_var)))⟩)

abbrev s_Instance_as_tuple : Stmt := inClass (top 19) 2
abbrev N_Instance_as_tuple : List Str := ["self", "indexes", "holds", "entries", "slot", "number"]
theorem sc_Instance_as_tuple : FnScope N_Instance_as_tuple ["self", "indexes"] (defScope s_Instance_as_tuple) := ⟨rfl, rfl, rfl, by decide +kernel, rfl, by decide +kernel, by decide +kernel⟩
def d_Instance_as_tuple : DS := (dSeq (dLockS (dFld "holds" ["Instance"] (dVar 0)) (dAsg (dFz (dlLc (diItems (dFld "holds" ["Instance"] (dVar 0))) (dgTup 2 (dgCons (dgName 4) (dgCons (dgName 5) dgNil))) dYes (dTup (dCons (dVar 4) (dCons (dOp fIx (dVar 1) (dVar 5)) dNil))) [4, 5])) (dgName 2)))
  (dSeq (dAsg (dFz (dlLc (diAny (dFld "entries" ["Instance"] (dVar 0))) (dgName 5) dYes (dOp fIx (dVar 1) (dVar 5)) [5])) (dgName 3))
  (dRet (dTup (dCons (dFld "module" ["Instance"] (dVar 0)) (dCons (dFld "edition" ["Instance"] (dVar 0)) (dCons (dFld "word" ["Instance"] (dVar 0)) (dCons (dCB fTupL (dCons (dVar 2) dNil)) (dCons (dCB fTupL (dCons (dVar 3) dNil)) dNil)))))))))
def F_Instance_as_tuple : FD := runD (d_Instance_as_tuple) 6
theorem dn_Instance_as_tuple (T : TxN mg)
    (hf_holds : HasF K "holds" ["Instance"])
    (hf_entries : HasF K "entries" ["Instance"])
    (hf_word : HasF K "word" ["Instance"])
    (hf_edition : HasF K "edition" ["Instance"])
    (hf_module : HasF K "module" ["Instance"])
    {f : Addr} {fd : FuncData} (F : Fun K "as_tuple" "Instance.as_tuple" s_Instance_as_tuple f fd) : FnOk P w K mg base (L2.CX P w) 1 f fd ["self", "indexes"] (conc K 2 (F_Instance_as_tuple)) :=
  fun_den (k := 0) (ps := ["self", "indexes"]) F sc_Instance_as_tuple (fun cdv A outer s H E hr => ⟨_,
  (pss_cons (ps_lock (ps_setLc (i := 2) (own := [("slot", 4), ("number", 5)]) (g := (gTup K 2 (gCons (gName 4) (gCons (gName 5) gNil)))) (tt := tYes) rfl sc_Instance_as_tuple.nd rfl rfl (sw_true rfl rfl rfl (by decide +kernel)) (pi_items (k_fld rfl (pv 0))) (blkOk_by (own := [("slot", 4), ("number", 5)]) (N := N_Instance_as_tuple) (sc := defScope s_Instance_as_tuple) (by decide +kernel)) (fun _ _ _ _ _ => (k_gtup rfl rfl (pgs_cons (pg_name (i := 4) sc_Instance_as_tuple.nd rfl (Or.inl rfl)) (pgs_cons (pg_name (i := 5) sc_Instance_as_tuple.nd rfl (Or.inl rfl)) pgs_nil)))) (fun _ _ _ _ _ => pts_nil) (fun _ _ _ _ _ => (pe_tup (pa_cons (pv 4) (pa_cons (pe_ix (k_ix rfl (u65 hr)) (pv 1) (pv 5) (fun _ _ => rfl)) pa_nil))))))
  (pss_cons (ps_setLc (i := 3) (own := [("number", 5)]) (g := (gName 5)) (tt := tYes) rfl sc_Instance_as_tuple.nd rfl rfl (sw_true rfl rfl rfl (by decide +kernel)) (k_each rfl (k_fld rfl (pv 0))) (blkOk_by (own := [("number", 5)]) (N := N_Instance_as_tuple) (sc := defScope s_Instance_as_tuple) (by decide +kernel)) (fun _ _ _ _ _ => (pg_name (i := 5) sc_Instance_as_tuple.nd rfl (Or.inl rfl))) (fun _ _ _ _ _ => pts_nil) (fun _ _ _ _ _ => (pe_ix (k_ix rfl (u65 hr)) (pv 1) (pv 5) (fun _ _ => rfl))))
  (pss_one (ps_ret (pe_tup (pa_cons (k_fld rfl (pv 0)) (pa_cons (k_fld rfl (pv 0)) (pa_cons (k_fld rfl (pv 0)) (pa_cons (pe_callTy (k_tup rfl) (by rfl) T.b_tuple (by decide +kernel) (pa_cons (pv 2) pa_nil)) (pa_cons (pe_callTy (k_tup rfl) (by rfl) T.b_tuple (by decide +kernel) (pa_cons (pv 3) pa_nil)) pa_nil)))))))))),
  (ss_seq (ss_lock (dFld "holds" ["Instance"] (dVar 0)) (ss_asg (se_fz (sl_lc (vs := [4, 5]) (si_items (se_fld hf_holds se_var)) (sg_tup (sgs_cons sg_name (sgs_cons sg_name sgs_nil))) (gw_tup (gws_cons gw_name gm_name (gws_cons gw_name gm_name gws_nil gms_nil) (gms_cons gm_name gms_nil))) (gm_tup (gms_cons gm_name (gms_cons gm_name gms_nil))) st_yes (se_tup (sa_cons se_var (sa_cons (se_op so_ix se_var se_var) sa_nil))))) sg_name))
  (ss_seq (ss_asg (se_fz (sl_lc (vs := [5]) (si_any (se_fld hf_entries se_var)) sg_name gw_name gm_name st_yes (se_op so_ix se_var se_var))) sg_name)
  (ss_ret (se_tup (sa_cons (se_fld hf_module se_var) (sa_cons (se_fld hf_edition se_var) (sa_cons (se_fld hf_word se_var) (sa_cons (se_cb sc_tupL (sa_cons se_var sa_nil)) (sa_cons (se_cb sc_tupL (sa_cons se_var sa_nil)) sa_nil)))))))))⟩)

abbrev s_Machine___init__ : Stmt := inClass (top 20) 0
abbrev N_Machine___init__ : List Str := ["self", "graph", "sources", "name"]
theorem sc_Machine___init__ : FnScope N_Machine___init__ ["self", "graph", "sources"] (defScope s_Machine___init__) := ⟨rfl, rfl, rfl, by decide +kernel, rfl, by decide +kernel, by decide +kernel⟩
def d_Machine___init__ : DS := (dSeq (dSetF "graph" ["Machine"] (dVar 1) (dVar 0))
  (dSeq (dSetF "sources" ["Machine"] (dVar 2) (dVar 0))
  (dSeq (dSetF "instances" ["Machine"] (dTh (dlLst dNil)) (dVar 0))
  (dSeq (dSetF "current" ["Machine"] (dThD (ddDc (diAny (dFld "names" ["Graph"] (dVar 1))) (dgName 3) dYes (dVar 3) (dC .non) [3])) (dVar 0))
  (dSeq (dSetF "listeners" ["Machine"] (dTh (dlLst dNil)) (dVar 0))
  (dSeq (dSetF "carried" ["Machine"] dNewD (dVar 0))
  (dSetF "trace" ["Machine"] (dTh (dlLst dNil)) (dVar 0))))))))
def F_Machine___init__ : FD := runD (d_Machine___init__) 4
theorem dn_Machine___init__ (T : TxN mg)
    (hf_graph : HasF K "graph" ["Machine"])
    (hf_sources : HasF K "sources" ["Machine"])
    (hf_instances : HasF K "instances" ["Machine"])
    (hf_names : HasF K "names" ["Graph"])
    (hf_current : HasF K "current" ["Machine"])
    (hf_listeners : HasF K "listeners" ["Machine"])
    (hf_carried : HasF K "carried" ["Machine"])
    (hf_trace : HasF K "trace" ["Machine"])
    {f : Addr} {fd : FuncData} (F : Fun K "__init__" "Machine.__init__" s_Machine___init__ f fd) : FnOk P w K mg base (L2.CX P w) 1 f fd ["self", "graph", "sources"] (conc K 3 (F_Machine___init__)) :=
  fun_den (k := 0) (ps := ["self", "graph", "sources"]) F sc_Machine___init__ (fun cdv A outer s H E hr => ⟨_,
  (pss_cons (k_setF rfl (pv 0) (pv 1))
  (pss_cons (k_setF rfl (pv 0) (pv 2))
  (pss_cons (k_setF rfl (pv 0) (pe_lst pa_nil))
  (pss_cons (k_setF rfl (pv 0) (pe_dc (own := [("name", 3)]) (g := (gName 3)) (tt := tYes) rfl sc_Machine___init__.nd (k_each rfl (k_fld rfl (pv 1))) (blkOk_by (own := [("name", 3)]) (N := N_Machine___init__) (sc := defScope s_Machine___init__) (by decide +kernel)) (fun _ _ _ _ _ => (pg_name (i := 3) sc_Machine___init__.nd rfl (Or.inl rfl))) (fun _ _ _ _ _ => pts_nil) (fun _ _ _ _ _ => (pv 3)) (fun _ _ _ _ _ => pe_non)))
  (pss_cons (k_setF rfl (pv 0) (pe_lst pa_nil))
  (pss_cons (k_setF rfl (pv 0) pe_dnewK)
  (pss_one (k_setF rfl (pv 0) (pe_lst pa_nil))))))))),
  (ss_seq (ss_setF hf_graph se_var se_var)
  (ss_seq (ss_setF hf_sources se_var se_var)
  (ss_seq (ss_setF hf_instances (se_th (sl_lst sa_nil)) se_var)
  (ss_seq (ss_setF hf_current (se_thD (sd_dc (vs := [3]) (si_any (se_fld hf_names se_var)) sg_name gw_name gm_name st_yes se_var se_non)) se_var)
  (ss_seq (ss_setF hf_listeners (se_th (sl_lst sa_nil)) se_var)
  (ss_seq (ss_setF hf_carried se_newD se_var)
  (ss_setF hf_trace (se_th (sl_lst sa_nil)) se_var)))))))⟩)

abbrev s_Machine_living : Stmt := inClass (top 20) 5
abbrev N_Machine_living : List Str := ["self", "roots", "listener", "instance"]
theorem sc_Machine_living : FnScope N_Machine_living ["self"] (defScope s_Machine_living) := ⟨rfl, rfl, rfl, by decide +kernel, rfl, by decide +kernel, by decide +kernel⟩
def d_Machine_living : DS := (dSeq (dAsg (dOp fAdd (dFz (dlListVals (dFld "current" ["Machine"] (dVar 0)))) (dFz (dlLc (diAny (dFld "listeners" ["Machine"] (dVar 0))) (dgName 2) dYes (dOp fIx (dVar 2) (dC (.int 0))) [2]))) (dgName 1))
  (dRet (dCall 2 F_reached (dCons (dVar 1) (dCons (dFz (dlLc (diAny (dFld "instances" ["Machine"] (dVar 0))) (dgName 3) dYes (dMeth "Instance" "links" 1 F_Instance_links (dVar 3) dNil) [3])) dNil)))))
def F_Machine_living : FD := runD (d_Machine_living) 4
theorem dn_Machine_living (T : TxN mg)
    (hf_current : HasF K "current" ["Machine"])
    (hf_listeners : HasF K "listeners" ["Machine"])
    (hf_instances : HasF K "instances" ["Machine"])
    (M_Instance_links : MdN P w K mg base 1 "Instance" "links" ["self"] F_Instance_links)
    (D_reached : DfN P w K mg base 1 "reached" ["roots", "links"] F_reached)
    {f : Addr} {fd : FuncData} (F : Fun K "living" "Machine.living" s_Machine_living f fd) : FnOk P w K mg base (L2.CX P w) 2 f fd ["self"] (conc K 1 (F_Machine_living)) :=
  fun_den (k := 1) (ps := ["self"]) F sc_Machine_living (fun cdv A outer s H E hr => ⟨_,
  (pss_cons (ps_asg (pe_op (k_add rfl) (pe_listVals rfl (k_fld rfl (pv 0)) (by rfl) T.b_list) (pe_lc (own := [("listener", 2)]) (g := (gName 2)) (tt := tYes) rfl sc_Machine_living.nd (k_each rfl (k_fld rfl (pv 0))) (blkOk_by (own := [("listener", 2)]) (N := N_Machine_living) (sc := defScope s_Machine_living) (by decide +kernel)) (fun _ _ _ _ _ => (pg_name (i := 2) sc_Machine_living.nd rfl (Or.inl rfl))) (fun _ _ _ _ _ => pts_nil) (fun _ _ _ _ _ => (pe_ix (k_ix rfl (u65 hr)) (pv 2) pe_int (fun _ _ => rfl))))) (pg_name (i := 1) sc_Machine_living.nd rfl (Or.inl rfl)))
  (pss_one (ps_ret (pe_callS (E := WE (WO E)) D_reached.G (hr.mono (by omega)) rfl D_reached.m D_reached.kp D_reached.b (fun σ => passAt (takes_of rfl rfl rfl rfl) σ) (by exact (pa_cons (pv 1) (pa_cons (pe_lc (own := [("instance", 3)]) (g := (gName 3)) (tt := tYes) rfl sc_Machine_living.nd (k_each rfl (k_fld rfl (pv 0))) (blkOk_by (own := [("instance", 3)]) (N := N_Machine_living) (sc := defScope s_Machine_living) (by decide +kernel)) (fun _ _ _ _ _ => (pg_name (i := 3) sc_Machine_living.nd rfl (Or.inl rfl))) (fun _ _ _ _ _ => pts_nil) (fun _ _ _ _ _ => (pe_mS0 (E := WE W0) (pv 3) M_Instance_links.c M_Instance_links.M M_Instance_links.G (hr.mono (by omega)) M_Instance_links.b (fun σ => pass_no σ)))) pa_nil))))))),
  (ss_seq (ss_asg (se_op so_add (se_fz (sl_listVals (se_fld hf_current se_var))) (se_fz (sl_lc (vs := [2]) (si_any (se_fld hf_listeners se_var)) sg_name gw_name gm_name st_yes (se_op so_ix se_var se_int)))) sg_name)
  (ss_ret (se_call (sa_cons se_var (sa_cons (se_fz (sl_lc (vs := [3]) (si_any (se_fld hf_instances se_var)) sg_name gw_name gm_name st_yes (se_meth se_var sa_nil))) sa_nil)))))⟩)

abbrev s_Machine_give_birth : Stmt := inClass (top 20) 4
abbrev N_Machine_give_birth : List Str := ["self", "name", "edition", "number"]
theorem sc_Machine_give_birth : FnScope N_Machine_give_birth ["self", "name", "edition"] (defScope s_Machine_give_birth) := ⟨rfl, rfl, rfl, by decide +kernel, rfl, by decide +kernel, by decide +kernel⟩
def d_Machine_give_birth : DS := (dSeq (dAsg (dCB fLen (dCons (dFld "instances" ["Machine"] (dVar 0)) dNil)) (dgName 3))
  (dSeq (dDrop (dBM "list" fAppend (dFld "instances" ["Machine"] (dVar 0)) (dCons (dMake "Instance" 6 F_Instance___init__ (dCons (dVar 1) (dCons (dVar 2) (dCons (dC .non) (dCons (dTupF dNil) (dCons (dTupF dNil) dNil)))))) dNil)))
  (dSeq (dDPut (dFld "current" ["Machine"] (dVar 0)) (dVar 1) (dVar 3))
  (dSeq (dDrop (dBM "list" fAppend (dFld "trace" ["Machine"] (dVar 0)) (dCons (dTup (dCons (dC (.str "run")) (dCons (dVar 1) dNil))) dNil)))
  (dSeq (dIfS (dTest (dOp fGt (dCB fLen (dCons (dMeth "Machine" "living" 1 F_Machine_living (dVar 0) dNil) dNil)) (dFld "most" ["Graph"] (dFld "graph" ["Machine"] (dVar 0))))) dBadS dNext)
  (dRet (dVar 3)))))))
def F_Machine_give_birth : FD := runD (d_Machine_give_birth) 4
theorem dn_Machine_give_birth (T : TxN mg)
    (hf_instances : HasF K "instances" ["Machine"])
    (M_Instance___init__ : MkN P w K mg base 1 "Instance" ["self", "module", "edition", "word", "holds", "entries"] F_Instance___init__)
    (hf_current : HasF K "current" ["Machine"])
    (hf_trace : HasF K "trace" ["Machine"])
    (M_Machine_living : MdN P w K mg base 2 "Machine" "living" ["self"] F_Machine_living)
    (hf_graph : HasF K "graph" ["Machine"])
    (hf_most : HasF K "most" ["Graph"])
    {f : Addr} {fd : FuncData} (F : Fun K "give_birth" "Machine.give_birth" s_Machine_give_birth f fd) : FnOk P w K mg base (L2.CX P w) 3 f fd ["self", "name", "edition"] (conc K 3 (F_Machine_give_birth)) :=
  fun_den (k := 2) (ps := ["self", "name", "edition"]) F sc_Machine_give_birth (fun cdv A outer s H E hr => ⟨_,
  (pss_cons (ps_asg (pe_callB (k_len rfl) (by rfl) T.b_len (by decide +kernel) (pa_cons (k_fld rfl (pv 0)) pa_nil)) (pg_name (i := 3) sc_Machine_give_birth.nd rfl (Or.inl rfl)))
  (pss_cons (ps_expr (k_bm rfl PySem.F.plainAttrs_list PySem.F.slot_list_append PySem.F.type_list_append mt_append (k_fld rfl (pv 0)) (pa_cons (pe_makeB (E := WE (WO E)) M_Instance___init__.M M_Instance___init__.G (hr.mono (by omega)) (by rfl) M_Instance___init__.gC M_Instance___init__.b (fun σ => passAt (takes_of rfl rfl rfl rfl) σ) (by exact (pa_cons (pv 1) (pa_cons (pv 2) (pa_cons pe_non (pa_cons (pe_tupF pa_nil) (pa_cons (pe_tupF pa_nil) pa_nil))))))) pa_nil)))
  (pss_cons (ps_dputA (u1 hr) (k_fld rfl (pv 0)) (pv 1) (pv 3) rfl)
  (pss_cons (ps_expr (k_bm rfl PySem.F.plainAttrs_list PySem.F.slot_list_append PySem.F.type_list_append mt_append (k_fld rfl (pv 0)) (pa_cons (pe_tup (pa_cons pe_str (pa_cons (pv 1) pa_nil))) pa_nil)))
  (pss_cons (ps_if (pt_cmpR op_gt (pe_callB (k_len rfl) (by rfl) T.b_len (by decide +kernel) (pa_cons (pe_mS0 (E := WE (WO E)) (pv 0) M_Machine_living.c M_Machine_living.M M_Machine_living.G (hr.mono (by omega)) M_Machine_living.b (fun σ => passAt (takes_of rfl rfl rfl rfl) σ)) pa_nil)) (k_fld rfl (k_fld rfl (pv 0))) (nomark _)) (pss_one ps_nev) pss_nil)
  (pss_one (ps_ret (pv 3)))))))),
  (ss_seq (ss_asg (se_cb sc_len (sa_cons (se_fld hf_instances se_var) sa_nil)) sg_name)
  (ss_seq (ss_drop (se_bm (se_fld hf_instances se_var) (sa_cons (se_make (sa_cons se_var (sa_cons se_var (sa_cons se_non (sa_cons (se_tupF sa_nil) (sa_cons (se_tupF sa_nil) sa_nil)))))) sa_nil) sm_append))
  (ss_seq (ss_dput (se_fld hf_current se_var) se_var se_var)
  (ss_seq (ss_drop (se_bm (se_fld hf_trace se_var) (sa_cons (se_tup (sa_cons se_str (sa_cons se_var sa_nil))) sa_nil) sm_append))
  (ss_seq (ss_if (st_test (se_op so_gt (se_cb sc_len (sa_cons (se_meth se_var sa_nil) sa_nil)) (se_fld hf_most (se_fld hf_graph se_var)))) ss_bad ss_next)
  (ss_ret se_var))))))⟩)

abbrev s_Machine_enter : Stmt := inClass (top 20) 7
abbrev N_Machine_enter : List Str := ["self", "number", "name", "host", "entries"]
theorem sc_Machine_enter : FnScope N_Machine_enter ["self", "number", "name"] (defScope s_Machine_enter) := ⟨rfl, rfl, rfl, by decide +kernel, rfl, by decide +kernel, by decide +kernel⟩
def d_Machine_enter : DS := (dSeq (dAsg (dOp fIx (dFld "current" ["Machine"] (dVar 0)) (dVar 2)) (dgName 3))
  (dSeq (dIfS (dTest (dOp (fIsN false) (dVar 3) (dC .non))) dRetN dNext)
  (dSeq (dAsg (dFld "entries" ["Instance"] (dOp fIx (dFld "instances" ["Machine"] (dVar 0)) (dVar 3))) (dgName 4))
  (dSeq (dDrop (dBM "list" fAppend (dVar 4) (dCons (dVar 1) dNil)))
  (dIfS (dTest (dOp fGt (dCB fLen (dCons (dVar 4) dNil)) (dFld "most" ["Graph"] (dFld "graph" ["Machine"] (dVar 0))))) dBadS dNext)))))
def F_Machine_enter : FD := runD (d_Machine_enter) 5
theorem dn_Machine_enter (T : TxN mg)
    (hf_current : HasF K "current" ["Machine"])
    (hf_instances : HasF K "instances" ["Machine"])
    (hf_entries : HasF K "entries" ["Instance"])
    (hf_graph : HasF K "graph" ["Machine"])
    (hf_most : HasF K "most" ["Graph"])
    {f : Addr} {fd : FuncData} (F : Fun K "enter" "Machine.enter" s_Machine_enter f fd) : FnOk P w K mg base (L2.CX P w) 1 f fd ["self", "number", "name"] (conc K 3 (F_Machine_enter)) :=
  fun_den (k := 0) (ps := ["self", "number", "name"]) F sc_Machine_enter (fun cdv A outer s H E hr => ⟨_,
  (pss_cons (ps_asg (pe_ix (k_ix rfl (u65 hr)) (k_fld rfl (pv 0)) (pv 2) (fun _ _ => rfl)) (pg_name (i := 3) sc_Machine_enter.nd rfl (Or.inl rfl)))
  (pss_cons (ps_if (pt_cmpR op_isN (pv 3) pe_non (nomark _)) (pss_one ps_retN) pss_nil)
  (pss_cons (ps_asg (k_fld rfl (pe_ix (k_ix rfl (u65 hr)) (k_fld rfl (pv 0)) (pv 3) (fun _ _ => rfl))) (pg_name (i := 4) sc_Machine_enter.nd rfl (Or.inl rfl)))
  (pss_cons (ps_expr (k_bm rfl PySem.F.plainAttrs_list PySem.F.slot_list_append PySem.F.type_list_append mt_append (pv 4) (pa_cons (pv 1) pa_nil)))
  (pss_one (ps_if (pt_cmpR op_gt (pe_callB (k_len rfl) (by rfl) T.b_len (by decide +kernel) (pa_cons (pv 4) pa_nil)) (k_fld rfl (k_fld rfl (pv 0))) (nomark _)) (pss_one ps_nev) pss_nil)))))),
  (ss_seq (ss_asg (se_op so_ix (se_fld hf_current se_var) se_var) sg_name)
  (ss_seq (ss_if (st_test (se_op so_isN se_var se_non)) ss_retN ss_next)
  (ss_seq (ss_asg (se_fld hf_entries (se_op so_ix (se_fld hf_instances se_var) se_var)) sg_name)
  (ss_seq (ss_drop (se_bm se_var (sa_cons se_var sa_nil) sm_append))
  (ss_if (st_test (se_op so_gt (se_cb sc_len (sa_cons se_var sa_nil)) (se_fld hf_most (se_fld hf_graph se_var)))) ss_bad ss_next)))))⟩)

abbrev s_Machine_fill : Stmt := inClass (top 20) 8
abbrev N_Machine_fill : List Str := ["self", "number", "word", "instance"]
theorem sc_Machine_fill : FnScope N_Machine_fill ["self", "number", "word"] (defScope s_Machine_fill) := ⟨rfl, rfl, rfl, by decide +kernel, rfl, by decide +kernel, by decide +kernel⟩
def d_Machine_fill : DS := (dSeq (dAsg (dOp fIx (dFld "instances" ["Machine"] (dVar 0)) (dVar 1)) (dgName 3))
  (dSetF "word" ["Instance"] (dGet2 (dFld "carried" ["Machine"] (dVar 0)) (dFld "module" ["Instance"] (dVar 3)) (dVar 2)) (dVar 3)))
def F_Machine_fill : FD := runD (d_Machine_fill) 4
theorem dn_Machine_fill (T : TxN mg)
    (hf_instances : HasF K "instances" ["Machine"])
    (hf_carried : HasF K "carried" ["Machine"])
    (hf_module : HasF K "module" ["Instance"])
    (hf_word : HasF K "word" ["Instance"])
    {f : Addr} {fd : FuncData} (F : Fun K "fill" "Machine.fill" s_Machine_fill f fd) : FnOk P w K mg base (L2.CX P w) 1 f fd ["self", "number", "word"] (conc K 3 (F_Machine_fill)) :=
  fun_den (k := 0) (ps := ["self", "number", "word"]) F sc_Machine_fill (fun cdv A outer s H E hr => ⟨_,
  (pss_cons (ps_asg (pe_ix (k_ix rfl (u65 hr)) (k_fld rfl (pv 0)) (pv 1) (fun _ _ => rfl)) (pg_name (i := 3) sc_Machine_fill.nd rfl (Or.inl rfl)))
  (pss_one (k_setF rfl (pv 3) (pe_dget2 (u1 hr) (k_fld rfl (pv 0)) (k_fld rfl (pv 3)) (pv 2) ⟨rfl, rfl, rfl, rfl⟩)))),
  (ss_seq (ss_asg (se_op so_ix (se_fld hf_instances se_var) se_var) sg_name)
  (ss_setF hf_word (se_get2 (se_fld hf_carried se_var) (se_fld hf_module se_var) se_var) se_var))⟩)

abbrev s_Machine_listen : Stmt := inClass (top 20) 9
abbrev N_Machine_listen : List Str := ["self", "number", "row", "kind", "event", "listened"]
theorem sc_Machine_listen : FnScope N_Machine_listen ["self", "number", "row"] (defScope s_Machine_listen) := ⟨rfl, rfl, rfl, by decide +kernel, rfl, by decide +kernel, by decide +kernel⟩
def d_Machine_listen : DS := (dSeq (dAsg (dVar 2) (dgTup 3 (dgCons (dgName 3) (dgCons (dgName 4) (dgCons (dgName 5) dgNil)))))
  (dSeq (dDrop (dBM "list" fAppend (dFld "listeners" ["Machine"] (dVar 0)) (dCons (dTup (dCons (dVar 1) (dCons (dVar 4) (dCons (dVar 3) (dCons (dVar 5) dNil))))) dNil)))
  (dIfS (dTest (dOp fGt (dCB fLen (dCons (dFld "listeners" ["Machine"] (dVar 0)) dNil)) (dFld "most" ["Graph"] (dFld "graph" ["Machine"] (dVar 0))))) dBadS dNext)))
def F_Machine_listen : FD := runD (d_Machine_listen) 6
theorem dn_Machine_listen (T : TxN mg)
    (hf_listeners : HasF K "listeners" ["Machine"])
    (hf_graph : HasF K "graph" ["Machine"])
    (hf_most : HasF K "most" ["Graph"])
    {f : Addr} {fd : FuncData} (F : Fun K "listen" "Machine.listen" s_Machine_listen f fd) : FnOk P w K mg base (L2.CX P w) 1 f fd ["self", "number", "row"] (conc K 3 (F_Machine_listen)) :=
  fun_den (k := 0) (ps := ["self", "number", "row"]) F sc_Machine_listen (fun cdv A outer s H E hr => ⟨_,
  (pss_cons (ps_asg (pv 2) (k_gtup rfl rfl (pgs_cons (pg_name (i := 3) sc_Machine_listen.nd rfl (Or.inl rfl)) (pgs_cons (pg_name (i := 4) sc_Machine_listen.nd rfl (Or.inl rfl)) (pgs_cons (pg_name (i := 5) sc_Machine_listen.nd rfl (Or.inl rfl)) pgs_nil)))))
  (pss_cons (ps_expr (k_bm rfl PySem.F.plainAttrs_list PySem.F.slot_list_append PySem.F.type_list_append mt_append (k_fld rfl (pv 0)) (pa_cons (pe_tup (pa_cons (pv 1) (pa_cons (pv 4) (pa_cons (pv 3) (pa_cons (pv 5) pa_nil))))) pa_nil)))
  (pss_one (ps_if (pt_cmpR op_gt (pe_callB (k_len rfl) (by rfl) T.b_len (by decide +kernel) (pa_cons (k_fld rfl (pv 0)) pa_nil)) (k_fld rfl (k_fld rfl (pv 0))) (nomark _)) (pss_one ps_nev) pss_nil)))),
  (ss_seq (ss_asg se_var (sg_tup (sgs_cons sg_name (sgs_cons sg_name (sgs_cons sg_name sgs_nil)))))
  (ss_seq (ss_drop (se_bm (se_fld hf_listeners se_var) (sa_cons (se_tup (sa_cons se_var (sa_cons se_var (sa_cons se_var (sa_cons se_var sa_nil))))) sa_nil) sm_append))
  (ss_if (st_test (se_op so_gt (se_cb sc_len (sa_cons (se_fld hf_listeners se_var) sa_nil)) (se_fld hf_most (se_fld hf_graph se_var)))) ss_bad ss_next)))⟩)

abbrev s_Machine_do_rows : Stmt := inClass (top 20) 6
abbrev N_Machine_do_rows : List Str := ["self", "number", "rows", "row", "word"]
theorem sc_Machine_do_rows : FnScope N_Machine_do_rows ["self", "number", "rows"] (defScope s_Machine_do_rows) := ⟨rfl, rfl, rfl, by decide +kernel, rfl, by decide +kernel, by decide +kernel⟩
def d_Machine_do_rows : DS := (dFor (diAny (dVar 2)) (dgName 3)
  (dSeq (dAsg (dOp fIx (dVar 3) (dC (.int 0))) (dgName 4))
  (dIfS (dTest (dOp (fEq false) (dVar 4) (dC (.str "hold")))) (dDPut (dFld "holds" ["Instance"] (dOp fIx (dFld "instances" ["Machine"] (dVar 0)) (dVar 1))) (dOp fIx (dVar 3) (dC (.int 1))) (dOp fIx (dFld "current" ["Machine"] (dVar 0)) (dOp fIx (dVar 3) (dC (.int 2))))) (dIfS (dTest (dOp (fEq false) (dVar 4) (dC (.str "enter")))) (dDrop (dMeth "Machine" "enter" 3 F_Machine_enter (dVar 0) (dCons (dVar 1) (dCons (dOp fIx (dVar 3) (dC (.int 1))) dNil)))) (dIfS (dTest (dOp (fEq false) (dVar 4) (dC (.str "cell")))) (dDrop (dMeth "Machine" "fill" 3 F_Machine_fill (dVar 0) (dCons (dVar 1) (dCons (dOp fIx (dVar 3) (dC (.int 1))) dNil)))) (dDrop (dMeth "Machine" "listen" 3 F_Machine_listen (dVar 0) (dCons (dVar 1) (dCons (dVar 3) dNil)))))))))
def F_Machine_do_rows : FD := runD (d_Machine_do_rows) 5
theorem dn_Machine_do_rows (T : TxN mg)
    (hf_current : HasF K "current" ["Machine"])
    (hf_instances : HasF K "instances" ["Machine"])
    (hf_holds : HasF K "holds" ["Instance"])
    (M_Machine_enter : MdN P w K mg base 1 "Machine" "enter" ["self", "number", "name"] F_Machine_enter)
    (M_Machine_fill : MdN P w K mg base 1 "Machine" "fill" ["self", "number", "word"] F_Machine_fill)
    (M_Machine_listen : MdN P w K mg base 1 "Machine" "listen" ["self", "number", "row"] F_Machine_listen)
    {f : Addr} {fd : FuncData} (F : Fun K "do_rows" "Machine.do_rows" s_Machine_do_rows f fd) : FnOk P w K mg base (L2.CX P w) 2 f fd ["self", "number", "rows"] (conc K 3 (F_Machine_do_rows)) :=
  fun_den (k := 1) (ps := ["self", "number", "rows"]) F sc_Machine_do_rows (fun cdv A outer s H E hr => ⟨_,
  (pss_one (ps_for (passes_of rfl) rfl (k_each rfl (pv 2)) (pg_name (i := 3) sc_Machine_do_rows.nd rfl (Or.inl rfl))
  (pss_cons (ps_asg (pe_ix (k_ix rfl (u65 hr)) (pv 3) pe_int (fun _ _ => rfl)) (pg_name (i := 4) sc_Machine_do_rows.nd rfl (Or.inl rfl)))
  (pss_one (ps_if (pt_cmpR (k_eq rfl (u65 hr)) (pv 4) pe_str (nomark _)) (pss_one (ps_dputA (u1 hr) (k_fld rfl (pe_ix (k_ix rfl (u65 hr)) (k_fld rfl (pv 0)) (pv 1) (fun _ _ => rfl))) (pe_ix (k_ix rfl (u65 hr)) (pv 3) pe_int (fun _ _ => rfl)) (pe_ix (k_ix rfl (u65 hr)) (k_fld rfl (pv 0)) (pe_ix (k_ix rfl (u65 hr)) (pv 3) pe_int (fun _ _ => rfl)) (fun _ _ => rfl)) rfl)) (pss_one (ps_if (pt_cmpR (k_eq rfl (u65 hr)) (pv 4) pe_str (nomark _)) (pss_one (ps_expr (pe_mS (E := WE (WO E)) (pv 0) M_Machine_enter.c M_Machine_enter.M M_Machine_enter.G (hr.mono (by omega)) M_Machine_enter.b (fun σ => passAt (takes_of rfl rfl rfl rfl) σ) (by exact (pa_cons (pv 1) (pa_cons (pe_ix (k_ix rfl (u65 hr)) (pv 3) pe_int (fun _ _ => rfl)) pa_nil)))))) (pss_one (ps_if (pt_cmpR (k_eq rfl (u65 hr)) (pv 4) pe_str (nomark _)) (pss_one (ps_expr (pe_mS (E := WE (WO E)) (pv 0) M_Machine_fill.c M_Machine_fill.M M_Machine_fill.G (hr.mono (by omega)) M_Machine_fill.b (fun σ => passAt (takes_of rfl rfl rfl rfl) σ) (by exact (pa_cons (pv 1) (pa_cons (pe_ix (k_ix rfl (u65 hr)) (pv 3) pe_int (fun _ _ => rfl)) pa_nil)))))) (pss_one (ps_expr (pe_mS (E := WE (WO E)) (pv 0) M_Machine_listen.c M_Machine_listen.M M_Machine_listen.G (hr.mono (by omega)) M_Machine_listen.b (fun σ => passAt (takes_of rfl rfl rfl rfl) σ) (by exact (pa_cons (pv 1) (pa_cons (pv 3) pa_nil))))))))))))))),
  (ss_for (si_any se_var) sg_name
  (ss_seq (ss_asg (se_op so_ix se_var se_int) sg_name)
  (ss_if (st_test (se_op so_eq se_var se_str)) (ss_dput (se_fld hf_holds (se_op so_ix (se_fld hf_instances se_var) se_var)) (se_op so_ix se_var se_int) (se_op so_ix (se_fld hf_current se_var) (se_op so_ix se_var se_int))) (ss_if (st_test (se_op so_eq se_var se_str)) (ss_drop (se_meth se_var (sa_cons se_var (sa_cons (se_op so_ix se_var se_int) sa_nil)))) (ss_if (st_test (se_op so_eq se_var se_str)) (ss_drop (se_meth se_var (sa_cons se_var (sa_cons (se_op so_ix se_var se_int) sa_nil)))) (ss_drop (se_meth se_var (sa_cons se_var (sa_cons se_var sa_nil)))))))))⟩)

abbrev s_position : Stmt := top 7
abbrev N_position : List Str := ["items", "wanted", "number", "item"]
theorem sc_position : FnScope N_position ["items", "wanted"] (defScope s_position) := ⟨rfl, rfl, rfl, by decide +kernel, rfl, by decide +kernel, by decide +kernel⟩
def d_position : DS := (dRet (dOp fIx (dFz (dlLc (diEn (dCons (dVar 0) dNil)) (dgTup 2 (dgCons (dgName 2) (dgCons (dgName 3) dgNil))) (dTest (dOp (fEq false) (dVar 3) (dVar 1))) (dVar 2) [2, 3])) (dC (.int 0))))
def F_position : FD := runD (d_position) 4
theorem dn_position (T : TxN mg)
    {f : Addr} {fd : FuncData} (F : Fun K "position" "position" s_position f fd) : FnOk P w K mg base (L2.CX P w) 1 f fd ["items", "wanted"] (conc K 2 (F_position)) :=
  fun_den (k := 0) (ps := ["items", "wanted"]) F sc_position (fun cdv A outer s H E hr => ⟨_,
  (pss_one (ps_ret (pe_ix (k_ix rfl (u65 hr)) (pe_lc (own := [("number", 2), ("item", 3)]) (g := (gTup K 2 (gCons (gName 2) (gCons (gName 3) gNil)))) rfl sc_position.nd (k_en rfl (by rfl) T.b_enumerate (pa_cons (pv 0) pa_nil)) (blkOk_by (own := [("number", 2), ("item", 3)]) (N := N_position) (sc := defScope s_position) (by decide +kernel)) (fun _ _ _ _ _ => (k_gtup rfl rfl (pgs_cons (pg_name (i := 2) sc_position.nd rfl (Or.inl rfl)) (pgs_cons (pg_name (i := 3) sc_position.nd rfl (Or.inl rfl)) pgs_nil)))) (fun _ _ _ _ _ => (pts_one (pt_cmpR (k_eq rfl (u65 hr)) (pv 3) (pv 1) (nomark _)))) (fun _ _ _ _ _ => (pv 2))) pe_int (fun _ _ => rfl)))),
  (ss_ret (se_op so_ix (se_fz (sl_lc (vs := [2, 3]) (si_en (sa_cons se_var sa_nil)) (sg_tup (sgs_cons sg_name (sgs_cons sg_name sgs_nil))) (gw_tup (gws_cons gw_name gm_name (gws_cons gw_name gm_name gws_nil gms_nil) (gms_cons gm_name gms_nil))) (gm_tup (gms_cons gm_name (gms_cons gm_name gms_nil))) (st_test (se_op so_eq se_var se_var)) se_var)) se_int))⟩)

abbrev s_Graph_editions : Stmt := inClass (top 38) 2
abbrev N_Graph_editions : List Str := ["self", "name", "other", "editions"]
theorem sc_Graph_editions : FnScope N_Graph_editions ["self", "name"] (defScope s_Graph_editions) := ⟨rfl, rfl, rfl, by decide +kernel, rfl, by decide +kernel, by decide +kernel⟩
def d_Graph_editions : DS := (dSeq (dFor (diAny (dFld "modules" ["Graph"] (dVar 0))) (dgTup 2 (dgCons (dgName 2) (dgCons (dgName 3) dgNil)))
  (dIfS (dTest (dOp (fEq false) (dVar 2) (dVar 1))) (dRet (dVar 3)) dNext))
  dBadS)
def F_Graph_editions : FD := runD (d_Graph_editions) 4
theorem dn_Graph_editions (T : TxN mg)
    (hf_modules : HasF K "modules" ["Graph"])
    {f : Addr} {fd : FuncData} (F : Fun K "editions" "Graph.editions" s_Graph_editions f fd) : FnOk P w K mg base (L2.CX P w) 1 f fd ["self", "name"] (conc K 2 (F_Graph_editions)) :=
  fun_den (k := 0) (ps := ["self", "name"]) F sc_Graph_editions (fun cdv A outer s H E hr => ⟨_,
  (pss_cons (ps_for (passes_of rfl) rfl (k_each rfl (k_fld rfl (pv 0))) (k_gtup rfl rfl (pgs_cons (pg_name (i := 2) sc_Graph_editions.nd rfl (Or.inl rfl)) (pgs_cons (pg_name (i := 3) sc_Graph_editions.nd rfl (Or.inl rfl)) pgs_nil)))
  (pss_one (ps_if (pt_cmpR (k_eq rfl (u65 hr)) (pv 2) (pv 1) (nomark _)) (pss_one (ps_ret (pv 3))) pss_nil)))
  (pss_one ps_nev)),
  (ss_seq (ss_for (si_any (se_fld hf_modules se_var)) (sg_tup (sgs_cons sg_name (sgs_cons sg_name sgs_nil)))
  (ss_if (st_test (se_op so_eq se_var se_var)) (ss_ret se_var) ss_next))
  ss_bad)⟩)

abbrev s_Machine_run : Stmt := inClass (top 20) 2
abbrev N_Machine_run : List Str := ["self", "name", "edition", "imports", "body", "_", "number", "wanted"]
theorem sc_Machine_run : FnScope N_Machine_run ["self", "name"] (defScope s_Machine_run) := ⟨rfl, rfl, rfl, by decide +kernel, rfl, by decide +kernel, by decide +kernel⟩
def d_Machine_run (Fr : FD) : DS := (dSeq (dAsg (dOp fIx (dFld "sources" ["Machine"] (dVar 0)) (dCall 2 F_position (dCons (dFld "names" ["Graph"] (dFld "graph" ["Machine"] (dVar 0))) (dCons (dVar 1) dNil)))) (dgName 2))
  (dSeq (dAsg (dOp fIx (dMeth "Graph" "editions" 2 F_Graph_editions (dFld "graph" ["Machine"] (dVar 0)) (dCons (dVar 1) dNil)) (dVar 2)) (dgTup 4 (dgCons (dgName 3) (dgCons (dgName 4) (dgCons (dgName 5) (dgCons (dgName 5) dgNil))))))
  (dSeq (dAsg (dMeth "Machine" "give_birth" 3 F_Machine_give_birth (dVar 0) (dCons (dVar 1) (dCons (dVar 2) dNil))) (dgName 6))
  (dSeq (dFor (diAny (dVar 3)) (dgName 7)
  (dDrop (dMeth "Machine" "run_if_none" 2 Fr (dVar 0) (dCons (dVar 7) dNil))))
  (dDrop (dMeth "Machine" "do_rows" 3 F_Machine_do_rows (dVar 0) (dCons (dVar 6) (dCons (dVar 4) dNil))))))))
def F_Machine_run (Fr : FD) : FD := runD (d_Machine_run Fr) 8
theorem dn_Machine_run {Fr : FD} (T : TxN mg)
    {j : Nat} (hj : 4 ≤ j)
    (hf_sources : HasF K "sources" ["Machine"])
    (hf_graph : HasF K "graph" ["Machine"])
    (hf_names : HasF K "names" ["Graph"])
    (D_position : DfN P w K mg base 1 "position" ["items", "wanted"] F_position)
    (M_Graph_editions : MdN P w K mg base 1 "Graph" "editions" ["self", "name"] F_Graph_editions)
    (M_Machine_give_birth : MdN P w K mg base 3 "Machine" "give_birth" ["self", "name", "edition"] F_Machine_give_birth)
    (M_Machine_run_if_none : MdN P w K mg base j "Machine" "run_if_none" ["self", "name"] Fr)
    (M_Machine_do_rows : MdN P w K mg base 2 "Machine" "do_rows" ["self", "number", "rows"] F_Machine_do_rows)
    {f : Addr} {fd : FuncData} (F : Fun K "run" "Machine.run" s_Machine_run f fd) : FnOk P w K mg base (L2.CX P w) (j + 1) f fd ["self", "name"] (conc K 2 (F_Machine_run Fr)) :=
  fun_den (k := j) (ps := ["self", "name"]) F sc_Machine_run (fun cdv A outer s H E hr => ⟨_,
  (pss_cons (ps_asg (pe_ix (k_ix rfl (u65 hr)) (k_fld rfl (pv 0)) (pe_callS (E := WE (WO E)) D_position.G (hr.mono (by omega)) rfl D_position.m D_position.kp D_position.b (fun σ => passAt (takes_of rfl rfl rfl rfl) σ) (by exact (pa_cons (k_fld rfl (k_fld rfl (pv 0))) (pa_cons (pv 1) pa_nil)))) (fun _ _ => rfl)) (pg_name (i := 2) sc_Machine_run.nd rfl (Or.inl rfl)))
  (pss_cons (ps_asg (pe_ix (k_ix rfl (u65 hr)) (pe_mS (E := WE (WO E)) (k_fld rfl (pv 0)) M_Graph_editions.c M_Graph_editions.M M_Graph_editions.G (hr.mono (by omega)) M_Graph_editions.b (fun σ => passAt (takes_of rfl rfl rfl rfl) σ) (by exact (pa_cons (pv 1) pa_nil))) (pv 2) (fun _ _ => rfl)) (k_gtup rfl rfl (pgs_cons (pg_name (i := 3) sc_Machine_run.nd rfl (Or.inl rfl)) (pgs_cons (pg_name (i := 4) sc_Machine_run.nd rfl (Or.inl rfl)) (pgs_cons (pg_name (i := 5) sc_Machine_run.nd rfl (Or.inl rfl)) (pgs_cons (pg_name (i := 5) sc_Machine_run.nd rfl (Or.inl rfl)) pgs_nil))))))
  (pss_cons (ps_asg (pe_mS (E := WE (WO E)) (pv 0) M_Machine_give_birth.c M_Machine_give_birth.M M_Machine_give_birth.G (hr.mono (by omega)) M_Machine_give_birth.b (fun σ => passAt (takes_of rfl rfl rfl rfl) σ) (by exact (pa_cons (pv 1) (pa_cons (pv 2) pa_nil)))) (pg_name (i := 6) sc_Machine_run.nd rfl (Or.inl rfl)))
  (pss_cons (ps_for (passes_of rfl) rfl (k_each rfl (pv 3)) (pg_name (i := 7) sc_Machine_run.nd rfl (Or.inl rfl))
  (pss_one (ps_expr (pe_mS (E := WE (WO E)) (pv 0) M_Machine_run_if_none.c M_Machine_run_if_none.M M_Machine_run_if_none.G (hr.mono (by omega)) M_Machine_run_if_none.b (fun σ => passAt (takes_of rfl rfl rfl rfl) σ) (by exact (pa_cons (pv 7) pa_nil))))))
  (pss_one (ps_expr (pe_mS (E := WE (WO E)) (pv 0) M_Machine_do_rows.c M_Machine_do_rows.M M_Machine_do_rows.G (hr.mono (by omega)) M_Machine_do_rows.b (fun σ => passAt (takes_of rfl rfl rfl rfl) σ) (by exact (pa_cons (pv 6) (pa_cons (pv 4) pa_nil)))))))))),
  (ss_seq (ss_asg (se_op so_ix (se_fld hf_sources se_var) (se_call (sa_cons (se_fld hf_names (se_fld hf_graph se_var)) (sa_cons se_var sa_nil)))) sg_name)
  (ss_seq (ss_asg (se_op so_ix (se_meth (se_fld hf_graph se_var) (sa_cons se_var sa_nil)) se_var) (sg_tup (sgs_cons sg_name (sgs_cons sg_name (sgs_cons sg_name (sgs_cons sg_name sgs_nil))))))
  (ss_seq (ss_asg (se_meth se_var (sa_cons se_var (sa_cons se_var sa_nil))) sg_name)
  (ss_seq (ss_for (si_any se_var) sg_name
  (ss_drop (se_meth se_var (sa_cons se_var sa_nil))))
  (ss_drop (se_meth se_var (sa_cons se_var (sa_cons se_var sa_nil))))))))⟩)

abbrev s_Machine_run_if_none : Stmt := inClass (top 20) 3
abbrev N_Machine_run_if_none : List Str := ["self", "name"]
theorem sc_Machine_run_if_none : FnScope N_Machine_run_if_none ["self", "name"] (defScope s_Machine_run_if_none) := ⟨rfl, rfl, rfl, by decide +kernel, rfl, by decide +kernel, by decide +kernel⟩
def d_Machine_run_if_none (Fr : FD) : DS := (dIfS (dTest (dOp (fIsN false) (dOp fIx (dFld "current" ["Machine"] (dVar 0)) (dVar 1)) (dC .non))) (dDrop (dMeth "Machine" "run" 2 Fr (dVar 0) (dCons (dVar 1) dNil))) dNext)
def F_Machine_run_if_none (Fr : FD) : FD := runD (d_Machine_run_if_none Fr) 2
theorem dn_Machine_run_if_none {Fr : FD} (T : TxN mg)
    {j : Nat} (hj : 1 ≤ j)
    (hf_current : HasF K "current" ["Machine"])
    (M_Machine_run : MdN P w K mg base j "Machine" "run" ["self", "name"] Fr)
    {f : Addr} {fd : FuncData} (F : Fun K "run_if_none" "Machine.run_if_none" s_Machine_run_if_none f fd) : FnOk P w K mg base (L2.CX P w) (j + 1) f fd ["self", "name"] (conc K 2 (F_Machine_run_if_none Fr)) :=
  fun_den (k := j) (ps := ["self", "name"]) F sc_Machine_run_if_none (fun cdv A outer s H E hr => ⟨_,
  (pss_one (ps_if (pt_cmpR op_isN (pe_ix (k_ix rfl (u65 hr)) (k_fld rfl (pv 0)) (pv 1) (fun _ _ => rfl)) pe_non (nomark _)) (pss_one (ps_expr (pe_mS (E := WE (WO E)) (pv 0) M_Machine_run.c M_Machine_run.M M_Machine_run.G (hr.mono (by omega)) M_Machine_run.b (fun σ => passAt (takes_of rfl rfl rfl rfl) σ) (by exact (pa_cons (pv 1) pa_nil))))) pss_nil)),
  (ss_if (st_test (se_op so_isN (se_op so_ix (se_fld hf_current se_var) se_var) se_non)) (ss_drop (se_meth se_var (sa_cons se_var sa_nil))) ss_next)⟩)

abbrev s_Machine_as_state : Stmt := inClass (top 20) 14
abbrev N_Machine_as_state : List Str := ["self", "living", "index", "number", "instances", "current", "listeners", "indexes", "name", "owner", "event", "kind", "listened"]
theorem sc_Machine_as_state : FnScope N_Machine_as_state ["self"] (defScope s_Machine_as_state) := ⟨rfl, rfl, rfl, by decide +kernel, rfl, by decide +kernel, by decide +kernel⟩
def d_Machine_as_state : DS := (dSeq (dAsg (dMeth "Machine" "living" 1 F_Machine_living (dVar 0) dNil) (dgName 1))
  (dSeq (dAsg dNN (dgName 7))
  (dSeq (dFor (diEn (dCons (dVar 1) dNil)) (dgTup 2 (dgCons (dgName 2) (dgCons (dgName 3) dgNil)))
  (dDPut (dVar 7) (dVar 3) (dVar 2)))
  (dSeq (dAsg (dFz (dlLc (diAny (dVar 1)) (dgName 3) dYes (dMeth "Instance" "as_tuple" 2 F_Instance_as_tuple (dOp fIx (dFld "instances" ["Machine"] (dVar 0)) (dVar 3)) (dCons (dVar 7) dNil)) [3])) (dgName 4))
  (dSeq (dAsg (dFz (dlLc (diAny (dFld "names" ["Graph"] (dFld "graph" ["Machine"] (dVar 0)))) (dgName 8) dYes (dOp fIx (dVar 7) (dOp fIx (dFld "current" ["Machine"] (dVar 0)) (dVar 8))) [8])) (dgName 5))
  (dSeq (dAsg (dFz (dlLc (diAny (dFld "listeners" ["Machine"] (dVar 0))) (dgTup 4 (dgCons (dgName 9) (dgCons (dgName 10) (dgCons (dgName 11) (dgCons (dgName 12) dgNil))))) dYes (dTup (dCons (dOp fIx (dVar 7) (dVar 9)) (dCons (dVar 10) (dCons (dVar 11) (dCons (dVar 12) dNil))))) [9, 10, 11, 12])) (dgName 6))
  (dRet (dTup (dCons (dFld "sources" ["Machine"] (dVar 0)) (dCons (dCB fTupL (dCons (dVar 4) dNil)) (dCons (dCB fTupL (dCons (dVar 5) dNil)) (dCons (dCB fTupL (dCons (dVar 6) dNil)) dNil))))))))))))
def F_Machine_as_state : FD := runD (d_Machine_as_state) 13
theorem dn_Machine_as_state (T : TxN mg)
    (M_Machine_living : MdN P w K mg base 2 "Machine" "living" ["self"] F_Machine_living)
    (hf_instances : HasF K "instances" ["Machine"])
    (M_Instance_as_tuple : MdN P w K mg base 1 "Instance" "as_tuple" ["self", "indexes"] F_Instance_as_tuple)
    (hf_graph : HasF K "graph" ["Machine"])
    (hf_names : HasF K "names" ["Graph"])
    (hf_current : HasF K "current" ["Machine"])
    (hf_listeners : HasF K "listeners" ["Machine"])
    (hf_sources : HasF K "sources" ["Machine"])
    {f : Addr} {fd : FuncData} (F : Fun K "as_state" "Machine.as_state" s_Machine_as_state f fd) : FnOk P w K mg base (L2.CX P w) 3 f fd ["self"] (conc K 1 (F_Machine_as_state)) :=
  fun_den (k := 2) (ps := ["self"]) F sc_Machine_as_state (fun cdv A outer s H E hr => ⟨_,
  (pss_cons (ps_asg (pe_mS0 (E := WE (WO E)) (pv 0) M_Machine_living.c M_Machine_living.M M_Machine_living.G (hr.mono (by omega)) M_Machine_living.b (fun σ => passAt (takes_of rfl rfl rfl rfl) σ)) (pg_name (i := 1) sc_Machine_as_state.nd rfl (Or.inl rfl)))
  (pss_cons (ps_asg pe_NN (pg_name (i := 7) sc_Machine_as_state.nd rfl (Or.inr rfl)))
  (pss_cons (ps_for (passes_of rfl) rfl (k_en rfl (by rfl) T.b_enumerate (pa_cons (pv 1) pa_nil)) (k_gtup rfl rfl (pgs_cons (pg_name (i := 2) sc_Machine_as_state.nd rfl (Or.inl rfl)) (pgs_cons (pg_name (i := 3) sc_Machine_as_state.nd rfl (Or.inl rfl)) pgs_nil)))
  (pss_one (ps_dputA (u1 hr) (pv 7) (pv 3) (pv 2) rfl)))
  (pss_cons (ps_setLc (i := 4) (own := [("number", 3)]) (g := (gName 3)) (tt := tYes) rfl sc_Machine_as_state.nd rfl rfl (sw_true rfl rfl rfl (by decide +kernel)) (k_each rfl (pv 1)) (blkOk_by (own := [("number", 3)]) (N := N_Machine_as_state) (sc := defScope s_Machine_as_state) (by decide +kernel)) (fun _ _ _ _ _ => (pg_name (i := 3) sc_Machine_as_state.nd rfl (Or.inl rfl))) (fun _ _ _ _ _ => pts_nil) (fun _ _ _ _ _ => (pe_mS (E := WE W0) (pe_ix (k_ix rfl (u65 hr)) (k_fld rfl (pv 0)) (pv 3) (fun _ _ => rfl)) M_Instance_as_tuple.c M_Instance_as_tuple.M M_Instance_as_tuple.G (hr.mono (by omega)) M_Instance_as_tuple.b (fun σ => pass_no σ) (by exact (pa_cons (pv 7) pa_nil)))))
  (pss_cons (ps_setLc (i := 5) (own := [("name", 8)]) (g := (gName 8)) (tt := tYes) rfl sc_Machine_as_state.nd rfl rfl (sw_true rfl rfl rfl (by decide +kernel)) (k_each rfl (k_fld rfl (k_fld rfl (pv 0)))) (blkOk_by (own := [("name", 8)]) (N := N_Machine_as_state) (sc := defScope s_Machine_as_state) (by decide +kernel)) (fun _ _ _ _ _ => (pg_name (i := 8) sc_Machine_as_state.nd rfl (Or.inl rfl))) (fun _ _ _ _ _ => pts_nil) (fun _ _ _ _ _ => (pe_ix (k_ix rfl (u65 hr)) (pv 7) (pe_ix (k_ix rfl (u65 hr)) (k_fld rfl (pv 0)) (pv 8) (fun _ _ => rfl)) (fun _ _ => rfl))))
  (pss_cons (ps_setLc (i := 6) (own := [("owner", 9), ("event", 10), ("kind", 11), ("listened", 12)]) (g := (gTup K 4 (gCons (gName 9) (gCons (gName 10) (gCons (gName 11) (gCons (gName 12) gNil)))))) (tt := tYes) rfl sc_Machine_as_state.nd rfl rfl (sw_true rfl rfl rfl (by decide +kernel)) (k_each rfl (k_fld rfl (pv 0))) (blkOk_by (own := [("owner", 9), ("event", 10), ("kind", 11), ("listened", 12)]) (N := N_Machine_as_state) (sc := defScope s_Machine_as_state) (by decide +kernel)) (fun _ _ _ _ _ => (k_gtup rfl rfl (pgs_cons (pg_name (i := 9) sc_Machine_as_state.nd rfl (Or.inl rfl)) (pgs_cons (pg_name (i := 10) sc_Machine_as_state.nd rfl (Or.inl rfl)) (pgs_cons (pg_name (i := 11) sc_Machine_as_state.nd rfl (Or.inl rfl)) (pgs_cons (pg_name (i := 12) sc_Machine_as_state.nd rfl (Or.inl rfl)) pgs_nil)))))) (fun _ _ _ _ _ => pts_nil) (fun _ _ _ _ _ => (pe_tup (pa_cons (pe_ix (k_ix rfl (u65 hr)) (pv 7) (pv 9) (fun _ _ => rfl)) (pa_cons (pv 10) (pa_cons (pv 11) (pa_cons (pv 12) pa_nil)))))))
  (pss_one (ps_ret (pe_tup (pa_cons (k_fld rfl (pv 0)) (pa_cons (pe_callTy (k_tup rfl) (by rfl) T.b_tuple (by decide +kernel) (pa_cons (pv 4) pa_nil)) (pa_cons (pe_callTy (k_tup rfl) (by rfl) T.b_tuple (by decide +kernel) (pa_cons (pv 5) pa_nil)) (pa_cons (pe_callTy (k_tup rfl) (by rfl) T.b_tuple (by decide +kernel) (pa_cons (pv 6) pa_nil)) pa_nil))))))))))))),
  (ss_seq (ss_asg (se_meth se_var sa_nil) sg_name)
  (ss_seq (ss_asg se_NN sg_name)
  (ss_seq (ss_for (si_en (sa_cons se_var sa_nil)) (sg_tup (sgs_cons sg_name (sgs_cons sg_name sgs_nil)))
  (ss_dput se_var se_var se_var))
  (ss_seq (ss_asg (se_fz (sl_lc (vs := [3]) (si_any se_var) sg_name gw_name gm_name st_yes (se_meth (se_op so_ix (se_fld hf_instances se_var) se_var) (sa_cons se_var sa_nil)))) sg_name)
  (ss_seq (ss_asg (se_fz (sl_lc (vs := [8]) (si_any (se_fld hf_names (se_fld hf_graph se_var))) sg_name gw_name gm_name st_yes (se_op so_ix se_var (se_op so_ix (se_fld hf_current se_var) se_var)))) sg_name)
  (ss_seq (ss_asg (se_fz (sl_lc (vs := [9, 10, 11, 12]) (si_any (se_fld hf_listeners se_var)) (sg_tup (sgs_cons sg_name (sgs_cons sg_name (sgs_cons sg_name (sgs_cons sg_name sgs_nil))))) (gw_tup (gws_cons gw_name gm_name (gws_cons gw_name gm_name (gws_cons gw_name gm_name (gws_cons gw_name gm_name gws_nil gms_nil) (gms_cons gm_name gms_nil)) (gms_cons gm_name (gms_cons gm_name gms_nil))) (gms_cons gm_name (gms_cons gm_name (gms_cons gm_name gms_nil))))) (gm_tup (gms_cons gm_name (gms_cons gm_name (gms_cons gm_name (gms_cons gm_name gms_nil))))) st_yes (se_tup (sa_cons (se_op so_ix se_var se_var) (sa_cons se_var (sa_cons se_var (sa_cons se_var sa_nil))))))) sg_name)
  (ss_ret (se_tup (sa_cons (se_fld hf_sources se_var) (sa_cons (se_cb sc_tupL (sa_cons se_var sa_nil)) (sa_cons (se_cb sc_tupL (sa_cons se_var sa_nil)) (sa_cons (se_cb sc_tupL (sa_cons se_var sa_nil)) sa_nil))))))))))))⟩)

abbrev s_start : Stmt := top 22
abbrev N_start : List Str := ["graph", "sources", "machine"]
theorem sc_start : FnScope N_start ["graph", "sources"] (defScope s_start) := ⟨rfl, rfl, rfl, by decide +kernel, rfl, by decide +kernel, by decide +kernel⟩
def d_start (Fr : FD) : DS := (dSeq (dIfS (dNot (dTest (dCall 2 F_is_sources (dCons (dVar 0) (dCons (dVar 1) dNil))))) dBadS dNext)
  (dSeq (dAsg (dMake "Machine" 3 F_Machine___init__ (dCons (dVar 0) (dCons (dVar 1) dNil))) (dgName 2))
  (dSeq (dDrop (dMeth "Machine" "run" 2 Fr (dVar 2) (dCons (dFld "top" ["Graph"] (dVar 0)) dNil)))
  (dRet (dMeth "Machine" "as_state" 1 F_Machine_as_state (dVar 2) dNil)))))
def F_start (Fr : FD) : FD := runD (d_start Fr) 3
theorem dn_start {Fr : FD} (T : TxN mg)
    {j : Nat} (hj : 4 ≤ j)
    (D_is_sources : DfN P w K mg base 3 "is_sources" ["graph", "value"] F_is_sources)
    (M_Machine___init__ : MkN P w K mg base 1 "Machine" ["self", "graph", "sources"] F_Machine___init__)
    (hf_top : HasF K "top" ["Graph"])
    (M_Machine_run : MdN P w K mg base j "Machine" "run" ["self", "name"] Fr)
    (M_Machine_as_state : MdN P w K mg base 3 "Machine" "as_state" ["self"] F_Machine_as_state)
    {f : Addr} {fd : FuncData} (F : Fun K "start" "start" s_start f fd) : FnOk P w K mg base (L2.CX P w) (j + 1) f fd ["graph", "sources"] (conc K 2 (F_start Fr)) :=
  fun_den (k := j) (ps := ["graph", "sources"]) F sc_start (fun cdv A outer s H E hr => ⟨_,
  (pss_cons (ps_if (pt_not (pt_val (pe_callS (E := WE (WO E)) D_is_sources.G (hr.mono (by omega)) rfl D_is_sources.m D_is_sources.kp D_is_sources.b (fun σ => passAt (takes_of rfl rfl rfl rfl) σ) (by exact (pa_cons (pv 0) (pa_cons (pv 1) pa_nil)))))) (pss_one ps_nev) pss_nil)
  (pss_cons (ps_asg (pe_makeB (E := WE (WO E)) M_Machine___init__.M M_Machine___init__.G (hr.mono (by omega)) (by rfl) M_Machine___init__.gC M_Machine___init__.b (fun σ => passAt (takes_of rfl rfl rfl rfl) σ) (by exact (pa_cons (pv 0) (pa_cons (pv 1) pa_nil)))) (pg_name (i := 2) sc_start.nd rfl (Or.inl rfl)))
  (pss_cons (ps_expr (pe_mS (E := WE (WO E)) (pv 2) M_Machine_run.c M_Machine_run.M M_Machine_run.G (hr.mono (by omega)) M_Machine_run.b (fun σ => passAt (takes_of rfl rfl rfl rfl) σ) (by exact (pa_cons (k_fld rfl (pv 0)) pa_nil))))
  (pss_one (ps_ret (pe_mS0 (E := WE (WO E)) (pv 2) M_Machine_as_state.c M_Machine_as_state.M M_Machine_as_state.G (hr.mono (by omega)) M_Machine_as_state.b (fun σ => passAt (takes_of rfl rfl rfl rfl) σ))))))),
  (ss_seq (ss_if (st_not (st_B (se_call (sa_cons se_var (sa_cons se_var sa_nil))))) ss_bad ss_next)
  (ss_seq (ss_asg (se_make (sa_cons se_var (sa_cons se_var sa_nil))) sg_name)
  (ss_seq (ss_drop (se_meth se_var (sa_cons (se_fld hf_top se_var) sa_nil)))
  (ss_ret (se_meth se_var sa_nil)))))⟩)

abbrev s_Graph_all_sources : Stmt := inClass (top 38) 3
abbrev N_Graph_all_sources : List Str := ["self", "found", "_", "editions", "sources", "number"]
theorem sc_Graph_all_sources : FnScope N_Graph_all_sources ["self"] (defScope s_Graph_all_sources) := ⟨rfl, rfl, rfl, by decide +kernel, rfl, by decide +kernel, by decide +kernel⟩
def d_Graph_all_sources : DS := (dSeq (dAsg (dLst (dCons (dTupF dNil) dNil)) (dgName 1))
  (dSeq (dFor (diAny (dFld "modules" ["Graph"] (dVar 0))) (dgTup 2 (dgCons (dgName 2) (dgCons (dgName 3) dgNil)))
  (dAsg (dFz (dlLc2 (diAny (dVar 1)) (dgName 4) dYes (diRng1 (dCons (dCB fLen (dCons (dVar 3) dNil)) dNil)) (dgName 5) dYes (dOp fAdd (dVar 4) (dTup (dCons (dVar 5) dNil))) [4, 5] [5])) (dgName 1)))
  (dRet (dVar 1))))
def F_Graph_all_sources : FD := runD (d_Graph_all_sources) 6
theorem dn_Graph_all_sources (T : TxN mg)
    (hf_modules : HasF K "modules" ["Graph"])
    {f : Addr} {fd : FuncData} (F : Fun K "all_sources" "Graph.all_sources" s_Graph_all_sources f fd) : FnOk P w K mg base (L2.CX P w) 1 f fd ["self"] (conc K 1 (F_Graph_all_sources)) :=
  fun_den (k := 0) (ps := ["self"]) F sc_Graph_all_sources (fun cdv A outer s H E hr => ⟨_,
  (pss_cons (ps_asg (pe_lst (pa_cons (pe_tupF pa_nil) pa_nil)) (pg_name (i := 1) sc_Graph_all_sources.nd rfl (Or.inl rfl)))
  (pss_cons (ps_for (passes_of rfl) rfl (k_each rfl (k_fld rfl (pv 0))) (k_gtup rfl rfl (pgs_cons (pg_name (i := 2) sc_Graph_all_sources.nd rfl (Or.inl rfl)) (pgs_cons (pg_name (i := 3) sc_Graph_all_sources.nd rfl (Or.inr rfl)) pgs_nil)))
  (pss_one (ps_setLc2 (i := 1) (own := [("sources", 4), ("number", 5)]) (vs1 := [5]) (g := (gName 4)) (g1 := (gName 5)) (tt := tYes) (tt1 := tYes) rfl sc_Graph_all_sources.nd rfl rfl (sw_true rfl rfl rfl (by decide +kernel)) (k_each rfl (pv 1)) (blkOk_by (own := [("sources", 4), ("number", 5)]) (N := N_Graph_all_sources) (sc := defScope s_Graph_all_sources) (by decide +kernel)) (by decide) (fun _ _ _ _ _ => (pg_name (i := 4) sc_Graph_all_sources.nd rfl (Or.inl rfl))) (fun _ _ _ _ _ => pts_nil) (fun _ _ _ _ _ => (pi_range1 (by rfl) T.b_range (pa_cons (pe_callB (k_len rfl) (by rfl) T.b_len (by decide +kernel) (pa_cons (pv 3) pa_nil)) pa_nil))) (fun _ _ _ _ _ => (pg_name (i := 5) sc_Graph_all_sources.nd rfl (Or.inl rfl))) (fun _ _ _ _ _ => pts_nil) (fun _ _ _ _ _ => (pe_op (k_add rfl) (pv 4) (pe_tup (pa_cons (pv 5) pa_nil)))))))
  (pss_one (ps_ret (pv 1))))),
  (ss_seq (ss_asg (se_lst (sa_cons (se_tupF sa_nil) sa_nil)) sg_name)
  (ss_seq (ss_for (si_any (se_fld hf_modules se_var)) (sg_tup (sgs_cons sg_name (sgs_cons sg_name sgs_nil)))
  (ss_asg (se_fz (sl_lc2 (vs := [4, 5]) (vs1 := [5]) (si_any se_var) sg_name gw_name gm_name st_yes (si_rng1 (sa_cons (se_cb sc_len (sa_cons se_var sa_nil)) sa_nil)) sg_name gw_name gm_name st_yes (se_op so_add se_var (se_tup (sa_cons se_var sa_nil))))) sg_name))
  (ss_ret se_var)))⟩)

abbrev s_Graph_check_starts : Stmt := inClass (top 38) 1
abbrev N_Graph_check_starts : List Str := ["self", "sources"]
theorem sc_Graph_check_starts : FnScope N_Graph_check_starts ["self"] (defScope s_Graph_check_starts) := ⟨rfl, rfl, rfl, by decide +kernel, rfl, by decide +kernel, by decide +kernel⟩
def d_Graph_check_starts (Fs : FD) : DS := (dFor (diAny (dMeth "Graph" "all_sources" 1 F_Graph_all_sources (dVar 0) dNil)) (dgName 1)
  (dNoxS (dDrop (dCall 2 Fs (dCons (dVar 0) (dCons (dVar 1) dNil))))))
def F_Graph_check_starts (Fs : FD) : FD := runD (d_Graph_check_starts Fs) 2
theorem dn_Graph_check_starts {Fs : FD} (T : TxN mg) {C_TooMany : Addr}
    {j : Nat} (hj : 2 ≤ j)
    (M_Graph_all_sources : MdN P w K mg base 1 "Graph" "all_sources" ["self"] F_Graph_all_sources)
    (g_TooMany : mg "TooMany" = some (.ref C_TooMany))
    (D_start : DfN P w K mg base j "start" ["graph", "sources"] Fs)
    {f : Addr} {fd : FuncData} (F : Fun K "check_starts" "Graph.check_starts" s_Graph_check_starts f fd) : FnOk P w K mg base (L2.CX P w) (j + 1) f fd ["self"] (conc K 1 (F_Graph_check_starts Fs)) :=
  fun_den (k := j) (ps := ["self"]) F sc_Graph_check_starts (fun cdv A outer s H E hr => ⟨_,
  (pss_one (ps_for (passes_of rfl) rfl (k_each rfl (pe_mS0 (E := WE (WO E)) (pv 0) M_Graph_all_sources.c M_Graph_all_sources.M M_Graph_all_sources.G (hr.mono (by omega)) M_Graph_all_sources.b (fun σ => passAt (takes_of rfl rfl rfl rfl) σ))) (pg_name (i := 1) sc_Graph_check_starts.nd rfl (Or.inl rfl))
  (pss_one (ps_try_only (Wout := fun _ _ _ _ => False) rfl rfl ⟨rfl, by decide, .inl g_TooMany⟩ takes0 (fun W pn xe tk _ => (pss_one (ps_expr (pe_callS (E := WE W) D_start.G (hr.mono (by omega)) rfl D_start.m D_start.kp D_start.b (fun σ => passAt tk σ) (by exact (pa_cons (pv 0) (pa_cons (pv 1) pa_nil))))))) (fun a oe cls d pn _ _ => pss_one ps_nev))))),
  (ss_for (si_any (se_meth se_var sa_nil)) sg_name
  (ss_tryN (fun W => (ss_drop (se_call (sa_cons se_var (sa_cons se_var sa_nil)))))))⟩)

end
end Dn
set_option Elab.async false
set_option linter.all false
set_option maxRecDepth 100000
set_option maxHeartbeats 4000000
namespace My
open PySem PySem.Spec PyProof.Rows L2 Evl Cm Dl
section
variable {P : Program} {w : World} {K : PySem.W.Frag} {mg : Str → Option Value} {base : Heap}
/-! ### the small graph starts -/
abbrev edA : AV := .tup false [.tup false [], .tup false [], .tup false [], .tup false []]
abbrev modsA : AV := .tup false [.tup false [.str "m", .tup false [edA]]]
abbrev gA (u v : Addr) : AV := .obj "Graph" [("words", .opq u), ("events", .opq v), ("modules", modsA), ("top", .str "m"), ("most", .int 5), ("names", .tup true [.str "m"])]
def Fbad : FD := fun _ _ => .bad
abbrev Frif : FD := Dn.F_Machine_run_if_none Fbad
abbrev Frun1 : FD := Dn.F_Machine_run Frif
abbrev Fst1 : FD := Dn.F_start Frun1
abbrev Fcs1 : FD := Dn.F_Graph_check_starts Fst1
def isNon (r : Res AV) : Bool := match r with
  | .ok .non _ => true
  | _ => false
theorem isNon_ok {r : Res AV} (h : isNon r = true) : ∃ S, r = .ok .non S := by
  unfold isNon at h
  split at h
  · exact ⟨_, rfl⟩
  · cases h
theorem ev_cs (u v : Addr) : isNon (Fcs1 [gA u v] []) = true := by kernel_rfl
abbrev c0 (K : PySem.W.Frag) : Co := ⟨K, [], fun _ => False, none⟩
theorem c0_out {a : Addr} : (c0 K).Out a := ⟨List.not_mem_nil, id⟩
theorem c0_cor {H : Hp} : Cor (c0 K) [] H := ⟨rfl, List.nodup_nil, fun _ h => absurd h List.not_mem_nil, fun _ h => h.elim, fun i o a h => by simp at h⟩
theorem c0_ex {H H' : Hp} {c' : Co} (n : Nxt (c0 K) H c' H') : Ex H H' := fun a o h => n.keep a o c0_out h
def GrAt (K : PySem.W.Frag) (H : Hp) (x dx a b : Addr) (m : V) (nm : Addr) : Prop := H x = some (.ins (He.ga K "Graph") dx [("words", .ref a), ("events", .ref b), ("modules", m), ("top", .str "m"), ("most", .int 5), ("names", .ref nm)]) ∧ Rp M0 H 5 m modsD ∧ SqT K H nm [.str "m"] ∧ Pln K H nm
theorem rp_tup {H : Hp} {n : Nat} {v : V} {ds : List PyData} (h : Rp M0 H (n + 1) v (.tuple ds)) : ∃ a xs, v = .ref a ∧ SqT K H a xs ∧ Paired (Rp M0 H n) xs ds := by
  cases v with
  | ref a =>
    obtain ⟨xs, h1, _, h2, _⟩ := h
    exact ⟨a, xs, rfl, st_of h1, h2⟩
  | _ => exact (show False from h).elim
theorem rp_strv {H : Hp} {n : Nat} {v : V} {z : Str} (h : Rp M0 H n v (.str z)) : v = .str z := by
  cases v <;> cases n <;> first
    | exact congrArg V.str h
    | exact (show False from h).elim
theorem rp_emp {H : Hp} {n : Nat} {v : V} (h : Rp M0 H (n + 1) v (.tuple [])) : Rel (c0 K) H (.tup false []) v := by
  obtain ⟨a, xs, rfl, hs, p⟩ := rp_tup (K := K) h
  cases p
  exact .tup hs (fun z => nomatch z) .nil
theorem mods_rel {H : Hp} {m : V} (h : Rp M0 H 5 m modsD) : Rel (c0 K) H modsA m := by
  obtain ⟨a, xs, rfl, hs, p⟩ := rp_tup (K := K) h
  cases p with
  | cons h1 p =>
    cases p
    obtain ⟨a1, xs1, rfl, hs1, p1⟩ := rp_tup (K := K) h1
    cases p1 with
    | cons hm p1 =>
      cases p1 with
      | cons h2 p1 =>
        cases p1
        obtain rfl := rp_strv hm
        obtain ⟨a2, xs2, rfl, hs2, p2⟩ := rp_tup (K := K) h2
        cases p2 with
        | cons h3 p2 =>
          cases p2
          obtain ⟨a3, xs3, rfl, hs3, p3⟩ := rp_tup (K := K) h3
          cases p3 with
          | cons e1 p3 =>
            cases p3 with
            | cons e2 p3 =>
              cases p3 with
              | cons e3 p3 =>
                cases p3 with
                | cons e4 p3 =>
                  cases p3
                  exact .tup hs (fun z => nomatch z) (.cons (.tup hs1 (fun z => nomatch z) (.cons (.str (SOk.of (by decide +kernel))) (.cons (.tup hs2 (fun z => nomatch z) (.cons (.tup hs3 (fun z => nomatch z) (.cons (rp_emp e1) (.cons (rp_emp e2) (.cons (rp_emp e3) (.cons (rp_emp e4) .nil))))) .nil)) .nil))) .nil)
/-- the starts of the small graph raise nothing -/
def spCS (K : PySem.W.Frag) : Sp := fun vs H Q _ => ∃ x dx a b m nm, vs = [.ref x] ∧ GrAt K H x dx a b m nm ∧ ∀ H', Ex H H' → Q .non H'
theorem cs_conc : ∀ vs H Q E, spCS K vs H Q E → conc K 1 Fcs1 vs H Q E := by
  rintro vs H Q E ⟨x, dx, a, b, m, nm, rfl, ⟨hx, hm, hn, hp⟩, q⟩
  obtain ⟨S, e⟩ := isNon_ok (ev_cs a b)
  refine ⟨c0 K, [], [gA a b], rfl, c0_cor, .cons (.obj hx c0_out (.cons (.opq a) (.cons (.opq b) (.cons (mods_rel hm) (.cons (.str (SOk.of (by decide +kernel))) (.cons (.int 5) (.cons (.tup hn (fun _ => hp) (.cons (.str (SOk.of (by decide +kernel))) .nil)) .nil))))))) .nil, rfl, ?_⟩
  rw [e]
  intro c' H' v n k r
  cases r
  exact q H' (c0_ex n)
theorem ok_cs {k : Nat} {f : Addr} {fd : FuncData} {ps : List Str} (G : FnOk P w K mg base (L2.CX P w) k f fd ps (conc K 1 Fcs1)) : FnOk P w K mg base (L2.CX P w) k f fd ps (spCS K) := G.imp cs_conc
/-! ### Graph(..) -/
theorem rp_off {x : Addr} {H H' : Hp} (hx : ∀ xs, H x ≠ some (.lst xs) ∧ H x ≠ some (.tup xs)) (k : ∀ b o, b ≠ x → H b = some o → H' b = some o) : ∀ {n : Nat} {v : V} {d : PyData}, Rp M0 H n v d → Rp M0 H' n v d := by
  intro n
  induction n with
  | zero =>
    intro v d h
    cases v <;> cases d <;> first
      | exact (show False from h).elim
      | exact h
  | succ n ih =>
    intro v d h
    cases v <;> cases d <;> first
      | exact (show False from h).elim
      | exact h
      | (obtain ⟨xs, h1, hl, p, nm⟩ := h
         exact ⟨xs, k _ _ (fun z => by rw [z] at h1; first | exact absurd h1 (hx xs).1 | exact absurd h1 (hx xs).2) h1, hl, Paired.mapP p (fun _ _ r => ih r), nm⟩)
theorem wn_none {lo hi : Int} {d : PyData} (h : wn lo hi d = .none) : ∃ ds, d = .tuple ds := by
  unfold wn at h
  split at h
  · cases d with
    | tuple ds => exact ⟨ds, rfl⟩
    | _ => cases h
  · cases h
theorem errG_none {d e : PyData} (h : errG d e = none) : (∃ ds, d = .tuple ds) ∧ ∃ es, e = .tuple es := by
  unfold errG at h
  rcases wn_two 1 3 d with h1 | ⟨p, h1⟩
  · rw [h1] at h
    rcases wn_two 0 2 e with h2 | ⟨p, h2⟩
    · exact ⟨wn_none h1, wn_none h2⟩
    · rw [h2] at h
      cases h
  · rw [h1] at h
    cases h
abbrev s_Graph___init__ : Stmt := inClass (top 38) 0
abbrev N_Graph___init__ : List Str := ["self", "words", "events", "modules", "top", "most", "name", "_"]
theorem sc_Graph___init__ : FnScope N_Graph___init__ ["self", "words", "events", "modules", "top", "most"] (defScope s_Graph___init__) := ⟨rfl, rfl, rfl, by decide +kernel, rfl, by decide +kernel, by decide +kernel⟩
theorem ok_Graph_init (T : Txt K mg) {CI : Addr} (cG : Cls K (He.ga K "Graph")) (na : ∀ f ∈ (["words", "events", "modules", "top", "most", "names"] : List Str), NoAttr K (He.ga K "Graph") f)
    (D_check_parts : DfX P w K mg base 13 "check_parts" ["words", "events", "modules", "top", "most"] (spCP CI))
    {fc : Addr} {fdc : FuncData} (M_cs : Meth K (He.ga K "Graph") "check_starts" fc) (G_cs : FnOk P w K mg base (L2.CX P w) 12 fc fdc ["self"] (spCS K)) (b_cs : Binds K fdc ["self"] [])
    {f : Addr} {fd : FuncData} (F : FunD K "__init__" "Graph.__init__" (defArgs s_Graph___init__) (defBody s_Graph___init__) (defScope s_Graph___init__) [] [("most", .int 5)] f fd) :
    FnOk P w K mg base (L2.CX P w) 18 f fd ["self", "words", "events", "modules", "top", "most"] (spG (He.ga K "Graph") CI) := by
  refine F.ok (CX := L2.CX P w) sc_Graph___init__ (fun vs H Q E h => ?_) (fun cdv A outer s H vs Q E hr h => ?_)
  · obtain ⟨x, dx, u, v, m, d, e, rfl, _⟩ := h
    rfl
  obtain ⟨x, dx, u, v, m, d, e, rfl, hx, hdx, hu, hv, hm, hd, he, k, kx⟩ := h
  refine ⟨_, (pss_cons (ps_expr (pe_callS D_check_parts.G (hr.mono (by omega)) rfl D_check_parts.m D_check_parts.kp D_check_parts.b (fun σ => passAt (takes_of rfl rfl rfl rfl) σ) (by exact (pa_cons (pv 1) (pa_cons (pv 2) (pa_cons (pv 3) (pa_cons (pv 4) (pa_cons (pv 5) pa_nil))))))))
  (pss_cons (ps_fld (pv 0) (pv 1) rfl)
  (pss_cons (ps_fld (pv 0) (pv 2) rfl)
  (pss_cons (ps_fld (pv 0) (pv 3) rfl)
  (pss_cons (ps_fld (pv 0) (pv 4) rfl)
  (pss_cons (ps_fld (pv 0) (pv 5) rfl)
  (pss_cons (ps_fld (pv 0) (pe_callTy call_tupF (by rfl) T.b_tuple (by decide +kernel) (pa_cons (pe_lc (own := [("name", 6), ("_", 7)]) (g := (gTup K 2 (gCons (gName 6) (gCons (gName 7) gNil)))) (tt := tYes) rfl sc_Graph___init__.nd (pi_tup (pv 3)) (blkOk_by (own := [("name", 6), ("_", 7)]) (N := N_Graph___init__) (sc := defScope s_Graph___init__) (by decide +kernel)) (fun _ _ _ _ _ => (pg_tup rfl (pgs_cons (pg_name (i := 6) sc_Graph___init__.nd rfl (Or.inl rfl)) (pgs_cons (pg_name (i := 7) sc_Graph___init__.nd rfl (Or.inl rfl)) pgs_nil)))) (fun _ _ _ _ _ => pts_nil) (fun _ _ _ _ _ => (pv 6))) pa_nil)) rfl)
  (pss_one (ps_expr (pe_mS0 (E := WE (WO E)) (pv 0) cG M_cs G_cs (hr.mono (by omega)) b_cs (fun σ => passAt (takes_of rfl rfl rfl rfl) σ))))))))))), ?_⟩
  refine ⟨_, rfl, _, rfl, _, rfl, _, rfl, _, rfl, u, v, m, d, e, rfl, hu, hv, hm, drawn_lens hd, drawn_lens he, fun hn H1 e1 => ?_, fun z p hz dd H1 e1 fly => kx z p hz dd H1 (fun b o _ _ hb => e1 b o hb) fly⟩
  obtain ⟨⟨ds, rfl⟩, es, rfl⟩ := errG_none hn
  obtain ⟨a, as, rfl, sa, pa⟩ := rp_tup (K := K) hu
  obtain ⟨b, bs, rfl, sb, pb⟩ := rp_tup (K := K) hv
  have hx1 := e1 _ _ hx
  refine ⟨_, rfl, _, rfl, x, _, dx, _, rfl, hx1, cG, na _ (by simp), (by decide), ?_⟩
  refine ⟨_, rfl, _, rfl, x, _, dx, _, rfl, upd_same, cG, na _ (by simp), (by show 1 < 1000; decide), ?_⟩
  refine ⟨_, rfl, _, rfl, x, _, dx, _, rfl, upd_same, cG, na _ (by simp), (by show 2 < 1000; decide), ?_⟩
  refine ⟨_, rfl, _, rfl, x, _, dx, _, rfl, upd_same, cG, na _ (by simp), (by show 3 < 1000; decide), ?_⟩
  refine ⟨_, rfl, _, rfl, x, _, dx, _, rfl, upd_same, cG, na _ (by simp), (by show 4 < 1000; decide), ?_⟩
  show tSeq _ _ _ _ (upd (upd (upd (upd (upd H1 x (.ins _ dx [("words", .ref a)])) x (.ins _ dx [("words", .ref a), ("events", .ref b)])) x (.ins _ dx [("words", .ref a), ("events", .ref b), ("modules", m)])) x (.ins _ dx [("words", .ref a), ("events", .ref b), ("modules", m), ("top", .str "m")])) x (.ins _ dx [("words", .ref a), ("events", .ref b), ("modules", m), ("top", .str "m"), ("most", .int 5)]))
  generalize eH : (upd (upd (upd (upd (upd H1 x (.ins _ dx [("words", .ref a)])) x (.ins _ dx [("words", .ref a), ("events", .ref b)])) x (.ins _ dx [("words", .ref a), ("events", .ref b), ("modules", m)])) x (.ins _ dx [("words", .ref a), ("events", .ref b), ("modules", m), ("top", .str "m")])) x (.ins (He.ga K "Graph") dx [("words", .ref a), ("events", .ref b), ("modules", m), ("top", .str "m"), ("most", .int 5)])) = H6
  have hx6 : H6 x = some (.ins (He.ga K "Graph") dx [("words", .ref a), ("events", .ref b), ("modules", m), ("top", .str "m"), ("most", .int 5)]) := by rw [← eH, upd_same]
  have off6 : ∀ b o, b ≠ x → H1 b = some o → H6 b = some o := fun b o hb h => by rw [← eH, upd_ne hb, upd_ne hb, upd_ne hb, upd_ne hb, upd_ne hb]; exact h
  clear eH
  have hm6 : Rp M0 H6 5 m modsD := rp_off (fun xs => ⟨fun z => (by rw [hx1] at z; cases z), fun z => (by rw [hx1] at z; cases z)⟩) off6 (hm.ex e1)
  cases m with
  | ref am =>
    obtain ⟨xs, ha, hxl, pa', _⟩ := id hm6
    cases pa' with
    | @cons m0 _ _ _ rm pa' =>
      cases pa'
      cases m0 with
      | ref bm =>
        obtain ⟨ys, hb, _, pb', _⟩ := id rm
        cases pb' with
        | @cons u0 _ _ _ r0 pb' =>
          cases pb' with
          | @cons u1 _ _ _ r1 pb' =>
            cases pb'
            obtain rfl := r0.strv
            refine ⟨_, rfl, am, rfl, ⟨_, st_of ha⟩, fun D hD => lc_it (walk_tup (K := K) (a := am) (xs := [.ref bm])) (fun i H' => Ex H6 H' ∧ H' D = some (.lst (if i = 0 then [] else [.str "m"]))) ⟨Ex.new hD, upd_same⟩ (fun i H' _ z => st_of (z.1 _ _ ha)) ?_ ?_⟩
            · rintro i v' H8 H9 hi ⟨e8, hD8⟩ ⟨rfl, hv'⟩
              have hi0 : i = 0 := Nat.lt_one_iff.mp hi
              subst hi0
              cases hv'
              refine ⟨bm, _, rfl, st_of (e8 _ _ hb), rfl, _, _, rfl, _, _, rfl, rfl, rfl, yes_if ?_⟩
              exact ⟨_, rfl, _, hD8, (by show 0 < sizeLine; decide), e8.mut hD, upd_same⟩
            · rintro H8 ⟨e8, hD8⟩
              refine ⟨D, [.str "m"], rfl, .inl ⟨sq_of hD8, fun l o hl h1 h2 => ?_⟩⟩
              have e9 : Ex H8 (upd H8 l (.frz o (.tup [.str "m"]))) := Ex.new hl
              have e69 := e8.trans e9
              refine ⟨_, rfl, x, _, dx, _, rfl, e69 _ _ hx6, cG, na _ (by simp), (by show 5 < 1000; decide), ?_⟩
              have nlx : l ≠ x := fun z => by
                have := e8 _ _ hx6
                rw [← z, hl] at this
                cases this
              have hx10 : (upd (upd H8 l (.frz o (.tup [.str "m"]))) x (.ins (He.ga K "Graph") dx [("words", .ref a), ("events", .ref b), ("modules", .ref am), ("top", .str "m"), ("most", .int 5), ("names", .ref l)])) x = some (.ins (He.ga K "Graph") dx [("words", .ref a), ("events", .ref b), ("modules", .ref am), ("top", .str "m"), ("most", .int 5), ("names", .ref l)]) := upd_same
              have off10 : ∀ c q, c ≠ x → (upd H8 l (.frz o (.tup [.str "m"]))) c = some q → (upd (upd H8 l (.frz o (.tup [.str "m"]))) x (.ins (He.ga K "Graph") dx [("words", .ref a), ("events", .ref b), ("modules", .ref am), ("top", .str "m"), ("most", .int 5), ("names", .ref l)])) c = some q := fun c q hc h => by rw [upd_ne hc]; exact h
              have hm10 := rp_off (fun xs => ⟨fun z => (by rw [e69 _ _ hx6] at z; cases z), fun z => (by rw [e69 _ _ hx6] at z; cases z)⟩) off10 (hm6.ex e69)
              have hl10 := off10 l _ nlx upd_same
              show tDrop (tMS (He.ga K "Graph") "check_starts" (spCS K) (WE (WO E)) (tVar 0) tNil) { nx := fun _ H' => Q .non H', rt := Q } (L2.start N_Graph___init__ [V.ref x, V.ref a, V.ref b, V.ref am, V.str "m", V.int 5]) (upd (upd H8 l (.frz o (.tup [.str "m"]))) x (.ins (He.ga K "Graph") dx [("words", .ref a), ("events", .ref b), ("modules", .ref am), ("top", .str "m"), ("most", .int 5), ("names", .ref l)]))
              generalize (upd (upd H8 l (.frz o (.tup [.str "m"]))) x (.ins (He.ga K "Graph") dx [("words", .ref a), ("events", .ref b), ("modules", .ref am), ("top", .str "m"), ("most", .int 5), ("names", .ref l)])) = H10 at hx10 off10 hm10 hl10 ⊢
              refine ⟨_, rfl, x, dx, _, rfl, hx10, rfl, x, dx, a, b, .ref am, l, rfl, ⟨hx10, hm10, .inl (.inr ⟨o, hl10⟩), .inl ⟨o, _, hl10, h1, h2⟩⟩, fun H11 e11 => ?_⟩
              exact k hn H11 _ (fun c q hc _ hq => e11 _ _ (off10 c q hc (e69 _ _ (off6 c q hc (e1 _ _ hq))))) (e11 _ _ hx10) rfl rfl
      | _ => exact rm.elim
  | _ => exact hm6.elim
theorem bad_ok {k : Nat} {f : Addr} {fd : FuncData} {ps : List Str} {n : Nat} : FnOk P w K mg base (L2.CX P w) k f fd ps (conc K n Fbad) :=
  ⟨fun vs H Q E h => by obtain ⟨_, _, _, _, _, _, _, h⟩ := h; exact False.elim h, fun A outer s H args us vs Q E _ _ _ _ h => by obtain ⟨_, _, _, _, _, _, _, h⟩ := h; exact False.elim h⟩
def spNo : Sp := fun _ _ _ _ => False
theorem no_ok {k : Nat} {f : Addr} {fd : FuncData} {ps : List Str} : FnOk P w K mg base CX0 k f fd ps spNo :=
  ⟨fun vs H Q E h => (show False from h).elim, fun A outer s H args us vs Q E _ _ _ _ h => (show False from h).elim⟩
theorem kbn_of {fd : FuncData} {ps : List Str} {ds : List Value} (r : Vals [V.int 5] ds) (b : Binds K fd ps ds) (hl : ps.length = 6 := by rfl) : KBn K fd ps 5 [] (fun us _ => us ++ ds) (fun vs _ => vs ++ [.int 5]) := by
  refine ⟨fun s us ws hK h5 hw => ?_, fun rv _ => rv.append r⟩
  have hd : ds.length = 1 := r.length.symm
  have := b s us hK (by rw [List.length_append, h5, hd, hl])
  exact this
abbrev s_InvalidGraph___init__ : Stmt := inClass (top 11) 0
abbrev N_InvalidGraph___init__ : List Str := ["self", "part", "path"]
theorem sc_InvalidGraph___init__ : FnScope N_InvalidGraph___init__ ["self", "part", "path"] (defScope s_InvalidGraph___init__) := ⟨rfl, rfl, rfl, by decide +kernel, rfl, by decide +kernel, by decide +kernel⟩
theorem ok_InvalidGraph (T : Txt K mg) {C S : Addr} (x : XC K C S) (sup : Sup K mg "SwapError" S) (n_part : PySem.W.findIn K (.ref C) "part" = some none) (n_path : PySem.W.findIn K (.ref C) "path" = some none) {f : Addr} {fd : FuncData} (F : Fun K "__init__" "InvalidGraph.__init__" s_InvalidGraph___init__ f fd) :
    FnOk P w K mg base CX0 1 f fd ["self", "part", "path"] (spX C ["part", "path"] [1, 3]) := by
  refine F.ok sc_InvalidGraph___init__ (fun vs H Q E h => ?_) (fun cdv A outer s H vs Q E hr h => ?_)
  · obtain ⟨a, args, ds, rfl, _, _, _, hl, _⟩ := h
    exact congrArg (· + 1) hl
  obtain ⟨a, args, ds, rfl, ha, hr1, hk, hlen, k⟩ := h
  cases hk with
  | @cons _ d0 _ ds0 k0 hk =>
  cases hr1 with
  | @cons v0 _ _ _ r0 hr1 =>
  cases hk with
  | @cons _ d1 _ ds1 k1 hk =>
  cases hr1 with
  | @cons v1 _ _ _ r1 hr1 =>
  cases hk
  cases hr1
  obtain ⟨z0, rfl, hz0⟩ := ok1 k0 r0
  obtain ⟨b1, l1, rfl, hb1, hz1, hy1⟩ := ok3 k1 r1
  refine ⟨_, (pss_cons (ps_expr (pe_sinit (by rfl) sup (pa_cons (pv 0) (pa_cons (pe_joined (PJ.cons pe_str (PJ.cons (pe_fmt (pv 1)) (PJ.cons pe_str (PJ.cons ((pe_fmtI hr) (pv 2)) PJ.nil))))) pa_nil))))
  (pss_cons (ps_ost (pv 0) (pv 1))
  (pss_one (ps_ost (pv 0) (pv 2))))), ?_⟩
  refine seq_drop ⟨_, rfl, js_ok (fun out => ⟨a, C, [.str out], rfl, (by show 1 ≤ 1000; decide), x.oex, ha, ?_⟩) _ _ (fun t ht => ?_) (by show 0 + 3000000 * 4 ≤ 16777216; decide)⟩
  · simp only [List.mem_cons, List.not_mem_nil, or_false] at ht
    rcases ht with rfl | rfl | rfl | rfl
    · exact part_c (by decide +kernel)
    · exact part_s (i := 1) rfl hz0
    · exact part_c (by decide +kernel)
    · exact part_t (K := K) (i := 2) rfl hb1 hz1 hy1
  · refine ⟨_, rfl, _, rfl, a, C, rfl, x.oex, n_part, .inl ⟨ha, fun dx hdx hne => ?_⟩⟩
    refine ⟨_, rfl, _, rfl, a, C, rfl, x.oex, n_path, .inr ⟨dx, [("part", _)], upd_same, by rw [upd_ne hne, upd_same], by show 1 ≤ 900; decide, ?_⟩⟩
    have hh := held2N (f := "part") (g := "path") (Ex.refl H) ha hdx hne (by decide +kernel) r0 r1
    exact k _ dx _ (fresh_back (Ex.refl H) hdx) hh.1 hh.2.1 hh.2.2.1 hh.2.2.2

end
end My
set_option Elab.async false
set_option linter.all false
set_option maxRecDepth 100000
set_option maxHeartbeats 4000000
namespace My
open PySem PySem.Spec PyProof.Rows L2 Evl Cm Dl
section
variable {P : Program} {w : World} {K : PySem.W.Frag} {mg : Str → Option Value} {base : Heap}
end
/-! ### what the top has written; the head -/
theorem all_mk {l : PySem.W.OpenLaw} {w : World} {K : PySem.W.Frag} {h : Heap} {mg : Str → Option Value} {fa : Addr} (X : K.In h) (G : h.Ns mainGlobals mg) (hfa : mg "law" = some (.ref fa))
    {f_is_integer : Addr} {od_is_integer an_is_integer : Option Addr} {sl_is_integer : Array (Option Value)} {oc_is_integer kV_is_integer dc_is_integer pm_is_integer cd_is_integer ct_is_integer : Value}
    {f_is_index : Addr} {od_is_index an_is_index : Option Addr} {sl_is_index : Array (Option Value)} {oc_is_index kV_is_index dc_is_index pm_is_index cd_is_index ct_is_index : Value}
    {f_is_name : Addr} {od_is_name an_is_name : Option Addr} {sl_is_name : Array (Option Value)} {oc_is_name kV_is_name dc_is_name pm_is_name cd_is_name ct_is_name : Value}
    {f_is_tuple : Addr} {od_is_tuple an_is_tuple : Option Addr} {sl_is_tuple : Array (Option Value)} {oc_is_tuple kV_is_tuple dc_is_tuple pm_is_tuple cd_is_tuple ct_is_tuple : Value}
    {f_wrong_names : Addr} {od_wrong_names an_wrong_names : Option Addr} {sl_wrong_names : Array (Option Value)} {oc_wrong_names kV_wrong_names dc_wrong_names pm_wrong_names cd_wrong_names ct_wrong_names : Value}
    {f_wrong_imports : Addr} {od_wrong_imports an_wrong_imports : Option Addr} {sl_wrong_imports : Array (Option Value)} {oc_wrong_imports kV_wrong_imports dc_wrong_imports pm_wrong_imports cd_wrong_imports ct_wrong_imports : Value}
    {f_wrong_accepts : Addr} {od_wrong_accepts an_wrong_accepts : Option Addr} {sl_wrong_accepts : Array (Option Value)} {oc_wrong_accepts kV_wrong_accepts dc_wrong_accepts pm_wrong_accepts cd_wrong_accepts ct_wrong_accepts : Value}
    {f_wrong_body : Addr} {od_wrong_body an_wrong_body : Option Addr} {sl_wrong_body : Array (Option Value)} {oc_wrong_body kV_wrong_body dc_wrong_body pm_wrong_body cd_wrong_body ct_wrong_body : Value}
    {f_wrong_cleanup : Addr} {od_wrong_cleanup an_wrong_cleanup : Option Addr} {sl_wrong_cleanup : Array (Option Value)} {oc_wrong_cleanup kV_wrong_cleanup dc_wrong_cleanup pm_wrong_cleanup cd_wrong_cleanup ct_wrong_cleanup : Value}
    {f_is_module : Addr} {od_is_module an_is_module : Option Addr} {sl_is_module : Array (Option Value)} {oc_is_module kV_is_module dc_is_module pm_is_module cd_is_module ct_is_module : Value}
    {f_wrong_edition : Addr} {od_wrong_edition an_wrong_edition : Option Addr} {sl_wrong_edition : Array (Option Value)} {oc_wrong_edition kV_wrong_edition dc_wrong_edition pm_wrong_edition cd_wrong_edition ct_wrong_edition : Value}
    {f_wrong_modules : Addr} {od_wrong_modules an_wrong_modules : Option Addr} {sl_wrong_modules : Array (Option Value)} {oc_wrong_modules kV_wrong_modules dc_wrong_modules pm_wrong_modules cd_wrong_modules ct_wrong_modules : Value}
    {f_check_parts : Addr} {od_check_parts an_check_parts : Option Addr} {sl_check_parts : Array (Option Value)} {oc_check_parts kV_check_parts dc_check_parts pm_check_parts cd_check_parts ct_check_parts : Value}
    {f__law_pool : Addr} {od__law_pool an__law_pool : Option Addr} {sl__law_pool : Array (Option Value)} {oc__law_pool kV__law_pool dc__law_pool pm__law_pool cd__law_pool ct__law_pool : Value}
    {f__law_draw : Addr} {od__law_draw an__law_draw : Option Addr} {sl__law_draw : Array (Option Value)} {oc__law_draw kV__law_draw dc__law_draw pm__law_draw cd__law_draw ct__law_draw : Value}
    {f__law_pick : Addr} {od__law_pick an__law_pick : Option Addr} {sl__law_pick : Array (Option Value)} {oc__law_pick kV__law_pick dc__law_pick pm__law_pick cd__law_pick ct__law_pick : Value}
    {f__law_name : Addr} {od__law_name an__law_name : Option Addr} {sl__law_name : Array (Option Value)} {oc__law_name kV__law_name dc__law_name pm__law_name cd__law_name ct__law_name : Value}
    {f__law_names : Addr} {od__law_names an__law_names : Option Addr} {sl__law_names : Array (Option Value)} {oc__law_names kV__law_names dc__law_names pm__law_names cd__law_names ct__law_names : Value}
    {f__law_same : Addr} {od__law_same an__law_same : Option Addr} {sl__law_same : Array (Option Value)} {oc__law_same kV__law_same dc__law_same pm__law_same cd__law_same ct__law_same : Value}
    {f__law_sign : Addr} {od__law_sign an__law_sign : Option Addr} {sl__law_sign : Array (Option Value)} {oc__law_sign kV__law_sign dc__law_sign pm__law_sign cd__law_sign ct__law_sign : Value}
    {f__law_bad : Addr} {od__law_bad an__law_bad : Option Addr} {sl__law_bad : Array (Option Value)} {oc__law_bad kV__law_bad dc__law_bad pm__law_bad cd__law_bad ct__law_bad : Value}
    {f__law_value : Addr} {od__law_value an__law_value : Option Addr} {sl__law_value : Array (Option Value)} {oc__law_value kV__law_value dc__law_value pm__law_value cd__law_value ct__law_value : Value}
    {f__law_is_name : Addr} {od__law_is_name an__law_is_name : Option Addr} {sl__law_is_name : Array (Option Value)} {oc__law_is_name kV__law_is_name dc__law_is_name pm__law_is_name cd__law_is_name ct__law_is_name : Value}
    {f__law_due : Addr} {od__law_due an__law_due : Option Addr} {sl__law_due : Array (Option Value)} {oc__law_due kV__law_due dc__law_due pm__law_due cd__law_due ct__law_due : Value}
    {f__law_asked : Addr} {od__law_asked an__law_asked : Option Addr} {sl__law_asked : Array (Option Value)} {oc__law_asked kV__law_asked dc__law_asked pm__law_asked cd__law_asked ct__law_asked : Value}
    {f_law : Addr} {od_law an_law : Option Addr} {sl_law : Array (Option Value)} {oc_law kV_law dc_law pm_law cd_law ct_law : Value}
    {f_is_sources : Addr} {od_is_sources an_is_sources : Option Addr} {sl_is_sources : Array (Option Value)} {oc_is_sources kV_is_sources dc_is_sources pm_is_sources cd_is_sources ct_is_sources : Value}
    {f_reached : Addr} {od_reached an_reached : Option Addr} {sl_reached : Array (Option Value)} {oc_reached kV_reached dc_reached pm_reached cd_reached ct_reached : Value}
    {f_start : Addr} {od_start an_start : Option Addr} {sl_start : Array (Option Value)} {oc_start kV_start dc_start pm_start cd_start ct_start : Value}
    {f_position : Addr} {od_position an_position : Option Addr} {sl_position : Array (Option Value)} {oc_position kV_position dc_position pm_position cd_position ct_position : Value}
    {S : Addr}
    {C_InvalidGraph : Addr} {nm_InvalidGraph q_InvalidGraph : Str} {N_InvalidGraph_ : Addr} {bs_InvalidGraph : List Value} {sn_InvalidGraph : List Str} {sub_InvalidGraph : List Value} {ab_InvalidGraph : Bool} {col_InvalidGraph : Option Bool} {dd_InvalidGraph : Option Addr} {m0_InvalidGraph m1_InvalidGraph m2_InvalidGraph m3_InvalidGraph m5_InvalidGraph : Option Value}
    {f_InvalidGraph_i : Addr} {od_InvalidGraph_i an_InvalidGraph_i : Option Addr} {sl_InvalidGraph_i : Array (Option Value)} {oc_InvalidGraph_i kV_InvalidGraph_i dc_InvalidGraph_i pm_InvalidGraph_i cd_InvalidGraph_i ct_InvalidGraph_i : Value}
    {C_Instance : Addr}
    {f_Instance___init__ : Addr} {od_Instance___init__ an_Instance___init__ : Option Addr} {sl_Instance___init__ : Array (Option Value)} {oc_Instance___init__ kV_Instance___init__ dc_Instance___init__ pm_Instance___init__ cd_Instance___init__ ct_Instance___init__ : Value}
    {f_Instance_links : Addr} {od_Instance_links an_Instance_links : Option Addr} {sl_Instance_links : Array (Option Value)} {oc_Instance_links kV_Instance_links dc_Instance_links pm_Instance_links cd_Instance_links ct_Instance_links : Value}
    {f_Instance_as_tuple : Addr} {od_Instance_as_tuple an_Instance_as_tuple : Option Addr} {sl_Instance_as_tuple : Array (Option Value)} {oc_Instance_as_tuple kV_Instance_as_tuple dc_Instance_as_tuple pm_Instance_as_tuple cd_Instance_as_tuple ct_Instance_as_tuple : Value}
    {C_Machine : Addr}
    {f_Machine___init__ : Addr} {od_Machine___init__ an_Machine___init__ : Option Addr} {sl_Machine___init__ : Array (Option Value)} {oc_Machine___init__ kV_Machine___init__ dc_Machine___init__ pm_Machine___init__ cd_Machine___init__ ct_Machine___init__ : Value}
    {f_Machine_run : Addr} {od_Machine_run an_Machine_run : Option Addr} {sl_Machine_run : Array (Option Value)} {oc_Machine_run kV_Machine_run dc_Machine_run pm_Machine_run cd_Machine_run ct_Machine_run : Value}
    {f_Machine_run_if_none : Addr} {od_Machine_run_if_none an_Machine_run_if_none : Option Addr} {sl_Machine_run_if_none : Array (Option Value)} {oc_Machine_run_if_none kV_Machine_run_if_none dc_Machine_run_if_none pm_Machine_run_if_none cd_Machine_run_if_none ct_Machine_run_if_none : Value}
    {f_Machine_give_birth : Addr} {od_Machine_give_birth an_Machine_give_birth : Option Addr} {sl_Machine_give_birth : Array (Option Value)} {oc_Machine_give_birth kV_Machine_give_birth dc_Machine_give_birth pm_Machine_give_birth cd_Machine_give_birth ct_Machine_give_birth : Value}
    {f_Machine_living : Addr} {od_Machine_living an_Machine_living : Option Addr} {sl_Machine_living : Array (Option Value)} {oc_Machine_living kV_Machine_living dc_Machine_living pm_Machine_living cd_Machine_living ct_Machine_living : Value}
    {f_Machine_do_rows : Addr} {od_Machine_do_rows an_Machine_do_rows : Option Addr} {sl_Machine_do_rows : Array (Option Value)} {oc_Machine_do_rows kV_Machine_do_rows dc_Machine_do_rows pm_Machine_do_rows cd_Machine_do_rows ct_Machine_do_rows : Value}
    {f_Machine_enter : Addr} {od_Machine_enter an_Machine_enter : Option Addr} {sl_Machine_enter : Array (Option Value)} {oc_Machine_enter kV_Machine_enter dc_Machine_enter pm_Machine_enter cd_Machine_enter ct_Machine_enter : Value}
    {f_Machine_fill : Addr} {od_Machine_fill an_Machine_fill : Option Addr} {sl_Machine_fill : Array (Option Value)} {oc_Machine_fill kV_Machine_fill dc_Machine_fill pm_Machine_fill cd_Machine_fill ct_Machine_fill : Value}
    {f_Machine_listen : Addr} {od_Machine_listen an_Machine_listen : Option Addr} {sl_Machine_listen : Array (Option Value)} {oc_Machine_listen kV_Machine_listen dc_Machine_listen pm_Machine_listen cd_Machine_listen ct_Machine_listen : Value}
    {f_Machine_as_state : Addr} {od_Machine_as_state an_Machine_as_state : Option Addr} {sl_Machine_as_state : Array (Option Value)} {oc_Machine_as_state kV_Machine_as_state dc_Machine_as_state pm_Machine_as_state cd_Machine_as_state ct_Machine_as_state : Value}
    {C_Graph : Addr}
    {f_Graph___init__ : Addr} {od_Graph___init__ an_Graph___init__ : Option Addr} {sl_Graph___init__ : Array (Option Value)} {oc_Graph___init__ dc_Graph___init__ pm_Graph___init__ cd_Graph___init__ ct_Graph___init__ : Value}
    {kD_Graph___init__ : Addr} {tk_Graph___init__ : Tok}
    {f_Graph_editions : Addr} {od_Graph_editions an_Graph_editions : Option Addr} {sl_Graph_editions : Array (Option Value)} {oc_Graph_editions kV_Graph_editions dc_Graph_editions pm_Graph_editions cd_Graph_editions ct_Graph_editions : Value}
    {f_Graph_all_sources : Addr} {od_Graph_all_sources an_Graph_all_sources : Option Addr} {sl_Graph_all_sources : Array (Option Value)} {oc_Graph_all_sources kV_Graph_all_sources dc_Graph_all_sources pm_Graph_all_sources cd_Graph_all_sources ct_Graph_all_sources : Value}
    {f_Graph___len__ : Addr} {od_Graph___len__ an_Graph___len__ : Option Addr} {sl_Graph___len__ : Array (Option Value)} {oc_Graph___len__ kV_Graph___len__ dc_Graph___len__ pm_Graph___len__ cd_Graph___len__ ct_Graph___len__ : Value}
    {f_Graph_check_starts : Addr} {od_Graph_check_starts an_Graph_check_starts : Option Addr} {sl_Graph_check_starts : Array (Option Value)} {oc_Graph_check_starts kV_Graph_check_starts dc_Graph_check_starts pm_Graph_check_starts cd_Graph_check_starts ct_Graph_check_starts : Value}
    {f_is_accepts_item : Addr} {od_is_accepts_item an_is_accepts_item : Option Addr} {sl_is_accepts_item : Array (Option Value)} {oc_is_accepts_item kV_is_accepts_item dc_is_accepts_item pm_is_accepts_item cd_is_accepts_item ct_is_accepts_item : Value}
    {f_is_cell_row : Addr} {od_is_cell_row an_is_cell_row : Option Addr} {sl_is_cell_row : Array (Option Value)} {oc_is_cell_row kV_is_cell_row dc_is_cell_row pm_is_cell_row cd_is_cell_row ct_is_cell_row : Value}
    {f_is_linking_row : Addr} {od_is_linking_row an_is_linking_row : Option Addr} {sl_is_linking_row : Array (Option Value)} {oc_is_linking_row kV_is_linking_row dc_is_linking_row pm_is_linking_row cd_is_linking_row ct_is_linking_row : Value}
    {f_is_cleanup_row : Addr} {od_is_cleanup_row an_is_cleanup_row : Option Addr} {sl_is_cleanup_row : Array (Option Value)} {oc_is_cleanup_row kV_is_cleanup_row dc_is_cleanup_row pm_is_cleanup_row cd_is_cleanup_row ct_is_cleanup_row : Value}
    {tok_LETTERS : Tok} {C_TooMany : Addr}
    (a_is_integer : PySem.W.nsIn K mainGlobals "is_integer" = some (some (.ref f_is_integer)))
    (l_is_integer : K.lookup f_is_integer = some ⟨oc_is_integer, od_is_integer, .func (PySem.W.fnOf "is_integer" "is_integer" (defArgs s_is_integer) (defBody s_is_integer) (defScope s_is_integer) .none kV_is_integer dc_is_integer pm_is_integer an_is_integer cd_is_integer ct_is_integer), sl_is_integer⟩)
    (c_is_integer : PySem.W.codeIn K cd_is_integer "is_integer" = true)
    (k_is_integer : PySem.W.keepIn K (.ref f_is_integer) = true)
    (a_is_index : PySem.W.nsIn K mainGlobals "is_index" = some (some (.ref f_is_index)))
    (l_is_index : K.lookup f_is_index = some ⟨oc_is_index, od_is_index, .func (PySem.W.fnOf "is_index" "is_index" (defArgs s_is_index) (defBody s_is_index) (defScope s_is_index) .none kV_is_index dc_is_index pm_is_index an_is_index cd_is_index ct_is_index), sl_is_index⟩)
    (c_is_index : PySem.W.codeIn K cd_is_index "is_index" = true)
    (k_is_index : PySem.W.keepIn K (.ref f_is_index) = true)
    (a_is_name : PySem.W.nsIn K mainGlobals "is_name" = some (some (.ref f_is_name)))
    (l_is_name : K.lookup f_is_name = some ⟨oc_is_name, od_is_name, .func (PySem.W.fnOf "is_name" "is_name" (defArgs s_is_name) (defBody s_is_name) (defScope s_is_name) .none kV_is_name dc_is_name pm_is_name an_is_name cd_is_name ct_is_name), sl_is_name⟩)
    (c_is_name : PySem.W.codeIn K cd_is_name "is_name" = true)
    (k_is_name : PySem.W.keepIn K (.ref f_is_name) = true)
    (a_is_tuple : PySem.W.nsIn K mainGlobals "is_tuple" = some (some (.ref f_is_tuple)))
    (l_is_tuple : K.lookup f_is_tuple = some ⟨oc_is_tuple, od_is_tuple, .func (PySem.W.fnOf "is_tuple" "is_tuple" (defArgs s_is_tuple) (defBody s_is_tuple) (defScope s_is_tuple) .none kV_is_tuple dc_is_tuple pm_is_tuple an_is_tuple cd_is_tuple ct_is_tuple), sl_is_tuple⟩)
    (c_is_tuple : PySem.W.codeIn K cd_is_tuple "is_tuple" = true)
    (k_is_tuple : PySem.W.keepIn K (.ref f_is_tuple) = true)
    (a_wrong_names : PySem.W.nsIn K mainGlobals "wrong_names" = some (some (.ref f_wrong_names)))
    (l_wrong_names : K.lookup f_wrong_names = some ⟨oc_wrong_names, od_wrong_names, .func (PySem.W.fnOf "wrong_names" "wrong_names" (defArgs s_wrong_names) (defBody s_wrong_names) (defScope s_wrong_names) .none kV_wrong_names dc_wrong_names pm_wrong_names an_wrong_names cd_wrong_names ct_wrong_names), sl_wrong_names⟩)
    (c_wrong_names : PySem.W.codeIn K cd_wrong_names "wrong_names" = true)
    (k_wrong_names : PySem.W.keepIn K (.ref f_wrong_names) = true)
    (a_wrong_imports : PySem.W.nsIn K mainGlobals "wrong_imports" = some (some (.ref f_wrong_imports)))
    (l_wrong_imports : K.lookup f_wrong_imports = some ⟨oc_wrong_imports, od_wrong_imports, .func (PySem.W.fnOf "wrong_imports" "wrong_imports" (defArgs s_wrong_imports) (defBody s_wrong_imports) (defScope s_wrong_imports) .none kV_wrong_imports dc_wrong_imports pm_wrong_imports an_wrong_imports cd_wrong_imports ct_wrong_imports), sl_wrong_imports⟩)
    (c_wrong_imports : PySem.W.codeIn K cd_wrong_imports "wrong_imports" = true)
    (k_wrong_imports : PySem.W.keepIn K (.ref f_wrong_imports) = true)
    (a_wrong_accepts : PySem.W.nsIn K mainGlobals "wrong_accepts" = some (some (.ref f_wrong_accepts)))
    (l_wrong_accepts : K.lookup f_wrong_accepts = some ⟨oc_wrong_accepts, od_wrong_accepts, .func (PySem.W.fnOf "wrong_accepts" "wrong_accepts" (defArgs s_wrong_accepts) (defBody s_wrong_accepts) (defScope s_wrong_accepts) .none kV_wrong_accepts dc_wrong_accepts pm_wrong_accepts an_wrong_accepts cd_wrong_accepts ct_wrong_accepts), sl_wrong_accepts⟩)
    (c_wrong_accepts : PySem.W.codeIn K cd_wrong_accepts "wrong_accepts" = true)
    (k_wrong_accepts : PySem.W.keepIn K (.ref f_wrong_accepts) = true)
    (a_wrong_body : PySem.W.nsIn K mainGlobals "wrong_body" = some (some (.ref f_wrong_body)))
    (l_wrong_body : K.lookup f_wrong_body = some ⟨oc_wrong_body, od_wrong_body, .func (PySem.W.fnOf "wrong_body" "wrong_body" (defArgs s_wrong_body) (defBody s_wrong_body) (defScope s_wrong_body) .none kV_wrong_body dc_wrong_body pm_wrong_body an_wrong_body cd_wrong_body ct_wrong_body), sl_wrong_body⟩)
    (c_wrong_body : PySem.W.codeIn K cd_wrong_body "wrong_body" = true)
    (k_wrong_body : PySem.W.keepIn K (.ref f_wrong_body) = true)
    (a_wrong_cleanup : PySem.W.nsIn K mainGlobals "wrong_cleanup" = some (some (.ref f_wrong_cleanup)))
    (l_wrong_cleanup : K.lookup f_wrong_cleanup = some ⟨oc_wrong_cleanup, od_wrong_cleanup, .func (PySem.W.fnOf "wrong_cleanup" "wrong_cleanup" (defArgs s_wrong_cleanup) (defBody s_wrong_cleanup) (defScope s_wrong_cleanup) .none kV_wrong_cleanup dc_wrong_cleanup pm_wrong_cleanup an_wrong_cleanup cd_wrong_cleanup ct_wrong_cleanup), sl_wrong_cleanup⟩)
    (c_wrong_cleanup : PySem.W.codeIn K cd_wrong_cleanup "wrong_cleanup" = true)
    (k_wrong_cleanup : PySem.W.keepIn K (.ref f_wrong_cleanup) = true)
    (a_is_module : PySem.W.nsIn K mainGlobals "is_module" = some (some (.ref f_is_module)))
    (l_is_module : K.lookup f_is_module = some ⟨oc_is_module, od_is_module, .func (PySem.W.fnOf "is_module" "is_module" (defArgs s_is_module) (defBody s_is_module) (defScope s_is_module) .none kV_is_module dc_is_module pm_is_module an_is_module cd_is_module ct_is_module), sl_is_module⟩)
    (c_is_module : PySem.W.codeIn K cd_is_module "is_module" = true)
    (k_is_module : PySem.W.keepIn K (.ref f_is_module) = true)
    (a_wrong_edition : PySem.W.nsIn K mainGlobals "wrong_edition" = some (some (.ref f_wrong_edition)))
    (l_wrong_edition : K.lookup f_wrong_edition = some ⟨oc_wrong_edition, od_wrong_edition, .func (PySem.W.fnOf "wrong_edition" "wrong_edition" (defArgs s_wrong_edition) (defBody s_wrong_edition) (defScope s_wrong_edition) .none kV_wrong_edition dc_wrong_edition pm_wrong_edition an_wrong_edition cd_wrong_edition ct_wrong_edition), sl_wrong_edition⟩)
    (c_wrong_edition : PySem.W.codeIn K cd_wrong_edition "wrong_edition" = true)
    (k_wrong_edition : PySem.W.keepIn K (.ref f_wrong_edition) = true)
    (a_wrong_modules : PySem.W.nsIn K mainGlobals "wrong_modules" = some (some (.ref f_wrong_modules)))
    (l_wrong_modules : K.lookup f_wrong_modules = some ⟨oc_wrong_modules, od_wrong_modules, .func (PySem.W.fnOf "wrong_modules" "wrong_modules" (defArgs s_wrong_modules) (defBody s_wrong_modules) (defScope s_wrong_modules) .none kV_wrong_modules dc_wrong_modules pm_wrong_modules an_wrong_modules cd_wrong_modules ct_wrong_modules), sl_wrong_modules⟩)
    (c_wrong_modules : PySem.W.codeIn K cd_wrong_modules "wrong_modules" = true)
    (k_wrong_modules : PySem.W.keepIn K (.ref f_wrong_modules) = true)
    (a_check_parts : PySem.W.nsIn K mainGlobals "check_parts" = some (some (.ref f_check_parts)))
    (l_check_parts : K.lookup f_check_parts = some ⟨oc_check_parts, od_check_parts, .func (PySem.W.fnOf "check_parts" "check_parts" (defArgs s_check_parts) (defBody s_check_parts) (defScope s_check_parts) .none kV_check_parts dc_check_parts pm_check_parts an_check_parts cd_check_parts ct_check_parts), sl_check_parts⟩)
    (c_check_parts : PySem.W.codeIn K cd_check_parts "check_parts" = true)
    (k_check_parts : PySem.W.keepIn K (.ref f_check_parts) = true)
    (a__law_pool : PySem.W.nsIn K mainGlobals "_law_pool" = some (some (.ref f__law_pool)))
    (l__law_pool : K.lookup f__law_pool = some ⟨oc__law_pool, od__law_pool, .func (PySem.W.fnOf "_law_pool" "_law_pool" (defArgs s__law_pool) (defBody s__law_pool) (defScope s__law_pool) .none kV__law_pool dc__law_pool pm__law_pool an__law_pool cd__law_pool ct__law_pool), sl__law_pool⟩)
    (c__law_pool : PySem.W.codeIn K cd__law_pool "_law_pool" = true)
    (k__law_pool : PySem.W.keepIn K (.ref f__law_pool) = true)
    (a__law_draw : PySem.W.nsIn K mainGlobals "_law_draw" = some (some (.ref f__law_draw)))
    (l__law_draw : K.lookup f__law_draw = some ⟨oc__law_draw, od__law_draw, .func (PySem.W.fnOf "_law_draw" "_law_draw" (defArgs s__law_draw) (defBody s__law_draw) (defScope s__law_draw) .none kV__law_draw dc__law_draw pm__law_draw an__law_draw cd__law_draw ct__law_draw), sl__law_draw⟩)
    (c__law_draw : PySem.W.codeIn K cd__law_draw "_law_draw" = true)
    (k__law_draw : PySem.W.keepIn K (.ref f__law_draw) = true)
    (a__law_pick : PySem.W.nsIn K mainGlobals "_law_pick" = some (some (.ref f__law_pick)))
    (l__law_pick : K.lookup f__law_pick = some ⟨oc__law_pick, od__law_pick, .func (PySem.W.fnOf "_law_pick" "_law_pick" (defArgs s__law_pick) (defBody s__law_pick) (defScope s__law_pick) .none kV__law_pick dc__law_pick pm__law_pick an__law_pick cd__law_pick ct__law_pick), sl__law_pick⟩)
    (c__law_pick : PySem.W.codeIn K cd__law_pick "_law_pick" = true)
    (k__law_pick : PySem.W.keepIn K (.ref f__law_pick) = true)
    (a__law_name : PySem.W.nsIn K mainGlobals "_law_name" = some (some (.ref f__law_name)))
    (l__law_name : K.lookup f__law_name = some ⟨oc__law_name, od__law_name, .func (PySem.W.fnOf "_law_name" "_law_name" (defArgs s__law_name) (defBody s__law_name) (defScope s__law_name) .none kV__law_name dc__law_name pm__law_name an__law_name cd__law_name ct__law_name), sl__law_name⟩)
    (c__law_name : PySem.W.codeIn K cd__law_name "_law_name" = true)
    (k__law_name : PySem.W.keepIn K (.ref f__law_name) = true)
    (a__law_names : PySem.W.nsIn K mainGlobals "_law_names" = some (some (.ref f__law_names)))
    (l__law_names : K.lookup f__law_names = some ⟨oc__law_names, od__law_names, .func (PySem.W.fnOf "_law_names" "_law_names" (defArgs s__law_names) (defBody s__law_names) (defScope s__law_names) .none kV__law_names dc__law_names pm__law_names an__law_names cd__law_names ct__law_names), sl__law_names⟩)
    (c__law_names : PySem.W.codeIn K cd__law_names "_law_names" = true)
    (k__law_names : PySem.W.keepIn K (.ref f__law_names) = true)
    (a__law_same : PySem.W.nsIn K mainGlobals "_law_same" = some (some (.ref f__law_same)))
    (l__law_same : K.lookup f__law_same = some ⟨oc__law_same, od__law_same, .func (PySem.W.fnOf "_law_same" "_law_same" (defArgs s__law_same) (defBody s__law_same) (defScope s__law_same) .none kV__law_same dc__law_same pm__law_same an__law_same cd__law_same ct__law_same), sl__law_same⟩)
    (c__law_same : PySem.W.codeIn K cd__law_same "_law_same" = true)
    (k__law_same : PySem.W.keepIn K (.ref f__law_same) = true)
    (a__law_sign : PySem.W.nsIn K mainGlobals "_law_sign" = some (some (.ref f__law_sign)))
    (l__law_sign : K.lookup f__law_sign = some ⟨oc__law_sign, od__law_sign, .func (PySem.W.fnOf "_law_sign" "_law_sign" (defArgs s__law_sign) (defBody s__law_sign) (defScope s__law_sign) .none kV__law_sign dc__law_sign pm__law_sign an__law_sign cd__law_sign ct__law_sign), sl__law_sign⟩)
    (c__law_sign : PySem.W.codeIn K cd__law_sign "_law_sign" = true)
    (k__law_sign : PySem.W.keepIn K (.ref f__law_sign) = true)
    (a__law_bad : PySem.W.nsIn K mainGlobals "_law_bad" = some (some (.ref f__law_bad)))
    (l__law_bad : K.lookup f__law_bad = some ⟨oc__law_bad, od__law_bad, .func (PySem.W.fnOf "_law_bad" "_law_bad" (defArgs s__law_bad) (defBody s__law_bad) (defScope s__law_bad) .none kV__law_bad dc__law_bad pm__law_bad an__law_bad cd__law_bad ct__law_bad), sl__law_bad⟩)
    (c__law_bad : PySem.W.codeIn K cd__law_bad "_law_bad" = true)
    (k__law_bad : PySem.W.keepIn K (.ref f__law_bad) = true)
    (a__law_value : PySem.W.nsIn K mainGlobals "_law_value" = some (some (.ref f__law_value)))
    (l__law_value : K.lookup f__law_value = some ⟨oc__law_value, od__law_value, .func (PySem.W.fnOf "_law_value" "_law_value" (defArgs s__law_value) (defBody s__law_value) (defScope s__law_value) .none kV__law_value dc__law_value pm__law_value an__law_value cd__law_value ct__law_value), sl__law_value⟩)
    (c__law_value : PySem.W.codeIn K cd__law_value "_law_value" = true)
    (k__law_value : PySem.W.keepIn K (.ref f__law_value) = true)
    (a__law_is_name : PySem.W.nsIn K mainGlobals "_law_is_name" = some (some (.ref f__law_is_name)))
    (l__law_is_name : K.lookup f__law_is_name = some ⟨oc__law_is_name, od__law_is_name, .func (PySem.W.fnOf "_law_is_name" "_law_is_name" (defArgs s__law_is_name) (defBody s__law_is_name) (defScope s__law_is_name) .none kV__law_is_name dc__law_is_name pm__law_is_name an__law_is_name cd__law_is_name ct__law_is_name), sl__law_is_name⟩)
    (c__law_is_name : PySem.W.codeIn K cd__law_is_name "_law_is_name" = true)
    (k__law_is_name : PySem.W.keepIn K (.ref f__law_is_name) = true)
    (a__law_due : PySem.W.nsIn K mainGlobals "_law_due" = some (some (.ref f__law_due)))
    (l__law_due : K.lookup f__law_due = some ⟨oc__law_due, od__law_due, .func (PySem.W.fnOf "_law_due" "_law_due" (defArgs s__law_due) (defBody s__law_due) (defScope s__law_due) .none kV__law_due dc__law_due pm__law_due an__law_due cd__law_due ct__law_due), sl__law_due⟩)
    (c__law_due : PySem.W.codeIn K cd__law_due "_law_due" = true)
    (k__law_due : PySem.W.keepIn K (.ref f__law_due) = true)
    (a__law_asked : PySem.W.nsIn K mainGlobals "_law_asked" = some (some (.ref f__law_asked)))
    (l__law_asked : K.lookup f__law_asked = some ⟨oc__law_asked, od__law_asked, .func (PySem.W.fnOf "_law_asked" "_law_asked" (defArgs s__law_asked) (defBody s__law_asked) (defScope s__law_asked) .none kV__law_asked dc__law_asked pm__law_asked an__law_asked cd__law_asked ct__law_asked), sl__law_asked⟩)
    (c__law_asked : PySem.W.codeIn K cd__law_asked "_law_asked" = true)
    (k__law_asked : PySem.W.keepIn K (.ref f__law_asked) = true)
    (a_law : PySem.W.nsIn K mainGlobals "law" = some (some (.ref f_law)))
    (l_law : K.lookup f_law = some ⟨oc_law, od_law, .func (PySem.W.fnOf "law" "law" (defArgs s_law) (defBody s_law) (defScope s_law) .none kV_law dc_law pm_law an_law cd_law ct_law), sl_law⟩)
    (c_law : PySem.W.codeIn K cd_law "law" = true)
    (k_law : PySem.W.keepIn K (.ref f_law) = true)
    (a_is_sources : PySem.W.nsIn K mainGlobals "is_sources" = some (some (.ref f_is_sources)))
    (l_is_sources : K.lookup f_is_sources = some ⟨oc_is_sources, od_is_sources, .func (PySem.W.fnOf "is_sources" "is_sources" (defArgs Dn.s_is_sources) (defBody Dn.s_is_sources) (defScope Dn.s_is_sources) .none kV_is_sources dc_is_sources pm_is_sources an_is_sources cd_is_sources ct_is_sources), sl_is_sources⟩)
    (c_is_sources : PySem.W.codeIn K cd_is_sources "is_sources" = true)
    (k_is_sources : PySem.W.keepIn K (.ref f_is_sources) = true)
    (a_reached : PySem.W.nsIn K mainGlobals "reached" = some (some (.ref f_reached)))
    (l_reached : K.lookup f_reached = some ⟨oc_reached, od_reached, .func (PySem.W.fnOf "reached" "reached" (defArgs Dn.s_reached) (defBody Dn.s_reached) (defScope Dn.s_reached) .none kV_reached dc_reached pm_reached an_reached cd_reached ct_reached), sl_reached⟩)
    (c_reached : PySem.W.codeIn K cd_reached "reached" = true)
    (k_reached : PySem.W.keepIn K (.ref f_reached) = true)
    (a_start : PySem.W.nsIn K mainGlobals "start" = some (some (.ref f_start)))
    (l_start : K.lookup f_start = some ⟨oc_start, od_start, .func (PySem.W.fnOf "start" "start" (defArgs Dn.s_start) (defBody Dn.s_start) (defScope Dn.s_start) .none kV_start dc_start pm_start an_start cd_start ct_start), sl_start⟩)
    (c_start : PySem.W.codeIn K cd_start "start" = true)
    (k_start : PySem.W.keepIn K (.ref f_start) = true)
    (a_position : PySem.W.nsIn K mainGlobals "position" = some (some (.ref f_position)))
    (l_position : K.lookup f_position = some ⟨oc_position, od_position, .func (PySem.W.fnOf "position" "position" (defArgs Dn.s_position) (defBody Dn.s_position) (defScope Dn.s_position) .none kV_position dc_position pm_position an_position cd_position ct_position), sl_position⟩)
    (c_position : PySem.W.codeIn K cd_position "position" = true)
    (k_position : PySem.W.keepIn K (.ref f_position) = true)
    (a_S : PySem.W.nsIn K mainGlobals "SwapError" = some (some (.ref S)))
    (rd_S : PySem.W.readsIn K S (.type "type") = true)
    (ga_S : PySem.W.specialIn K (.ref S) "__getattribute__" = some (some (.builtin "type.__getattribute__")))
    (vv_S : PySem.W.findCls K (.ref S) (.type "type") "__init__" = some (.val (.builtin "ValueError.__init__")))
    (ic_S : PySem.W.isClsIn K S = true)
    (ty_S : PySem.W.typeIn K (.ref S) = some (.type "type"))
    (ob_n : PySem.W.specialIn K (.builtin "object.__class__") "__get__" = some (some (.builtin "getset_descriptor.__get__")))
    (ob_t : PySem.W.takesIn K (.builtin "object.__class__") = some true)
    (a_InvalidGraph : PySem.W.nsIn K mainGlobals "InvalidGraph" = some (some (.ref C_InvalidGraph)))
    (x_InvalidGraph : K.lookup C_InvalidGraph = some (excClassObj nm_InvalidGraph q_InvalidGraph C_InvalidGraph N_InvalidGraph_ bs_InvalidGraph [.ref S, .type "ValueError", .type "Exception", .type "BaseException", .type "object"] true sn_InvalidGraph sub_InvalidGraph ab_InvalidGraph col_InvalidGraph dd_InvalidGraph m0_InvalidGraph m1_InvalidGraph m2_InvalidGraph m3_InvalidGraph m5_InvalidGraph "ValueError.__new__"))
    (sa_InvalidGraph : PySem.W.findIn K (.ref C_InvalidGraph) "__setattr__" = some (some (.builtin "object.__setattr__")))
    (ga_InvalidGraph : PySem.W.findIn K (.ref C_InvalidGraph) "__getattribute__" = some (some (.builtin "BaseException.__getattribute__")))
    (gg_InvalidGraph : PySem.W.findIn K (.ref C_InvalidGraph) "__getattr__" = some (none))
    (ca_InvalidGraph : PySem.W.findIn K (.ref C_InvalidGraph) "__class__" = some (some (.builtin "object.__class__")))
    (kc_InvalidGraph : PySem.W.keepIn K (.ref C_InvalidGraph) = true)
    (n_InvalidGraph_part : PySem.W.findIn K (.ref C_InvalidGraph) "part" = some none)
    (n_InvalidGraph_path : PySem.W.findIn K (.ref C_InvalidGraph) "path" = some none)
    (ic_InvalidGraph : PySem.W.findIn K (.ref C_InvalidGraph) "__init__" = some (some (.ref f_InvalidGraph_i)))
    (l_InvalidGraph_i : K.lookup f_InvalidGraph_i = some ⟨oc_InvalidGraph_i, od_InvalidGraph_i, .func (PySem.W.fnOf "__init__" "InvalidGraph.__init__" (defArgs s_InvalidGraph___init__) (defBody s_InvalidGraph___init__) (defScope s_InvalidGraph___init__) .none kV_InvalidGraph_i dc_InvalidGraph_i pm_InvalidGraph_i an_InvalidGraph_i cd_InvalidGraph_i ct_InvalidGraph_i), sl_InvalidGraph_i⟩)
    (c_InvalidGraph_i : PySem.W.codeIn K cd_InvalidGraph_i "InvalidGraph.__init__" = true)
    (k_InvalidGraph_i : PySem.W.keepIn K (.ref f_InvalidGraph_i) = true)
    (t_InvalidGraph_i : PySem.W.typeIn K (.ref f_InvalidGraph_i) = some (.type "function"))
    (a_Instance : PySem.W.nsIn K mainGlobals "Instance" = some (some (.ref C_Instance)))
    (cg_Instance : PySem.W.plainGet K C_Instance Str.empty = true)
    (cd_Instance : PySem.W.hasDictIn K C_Instance = true)
    (cp_Instance : PySem.W.plainOver K C_Instance = true)
    (cs_Instance : PySem.W.findIn K (.ref C_Instance) "__setattr__" = some (some (.builtin "object.__setattr__")))
    (n_Instance_module : PySem.W.findIn K (.ref C_Instance) "module" = some none)
    (n_Instance_edition : PySem.W.findIn K (.ref C_Instance) "edition" = some none)
    (n_Instance_word : PySem.W.findIn K (.ref C_Instance) "word" = some none)
    (n_Instance_holds : PySem.W.findIn K (.ref C_Instance) "holds" = some none)
    (n_Instance_entries : PySem.W.findIn K (.ref C_Instance) "entries" = some none)
    (mk_Instance : PySem.W.makesIn K C_Instance = true)
    (kp_Instance : PySem.W.keepIn K (.ref C_Instance) = true)
    (at_Instance___init__ : PySem.W.findIn K (.ref C_Instance) "__init__" = some (some (.ref f_Instance___init__)))
    (fn_Instance___init__ : PySem.W.isFn K (.ref f_Instance___init__) = true)
    (l_Instance___init__ : K.lookup f_Instance___init__ = some ⟨oc_Instance___init__, od_Instance___init__, .func (PySem.W.fnOf "__init__" "Instance.__init__" (defArgs Dn.s_Instance___init__) (defBody Dn.s_Instance___init__) (defScope Dn.s_Instance___init__) .none kV_Instance___init__ dc_Instance___init__ pm_Instance___init__ an_Instance___init__ cd_Instance___init__ ct_Instance___init__), sl_Instance___init__⟩)
    (c_Instance___init__ : PySem.W.codeIn K cd_Instance___init__ "Instance.__init__" = true)
    (k_Instance___init__ : PySem.W.keepIn K (.ref f_Instance___init__) = true)
    (at_Instance_links : PySem.W.findIn K (.ref C_Instance) "links" = some (some (.ref f_Instance_links)))
    (fn_Instance_links : PySem.W.isFn K (.ref f_Instance_links) = true)
    (l_Instance_links : K.lookup f_Instance_links = some ⟨oc_Instance_links, od_Instance_links, .func (PySem.W.fnOf "links" "Instance.links" (defArgs Dn.s_Instance_links) (defBody Dn.s_Instance_links) (defScope Dn.s_Instance_links) .none kV_Instance_links dc_Instance_links pm_Instance_links an_Instance_links cd_Instance_links ct_Instance_links), sl_Instance_links⟩)
    (c_Instance_links : PySem.W.codeIn K cd_Instance_links "Instance.links" = true)
    (k_Instance_links : PySem.W.keepIn K (.ref f_Instance_links) = true)
    (at_Instance_as_tuple : PySem.W.findIn K (.ref C_Instance) "as_tuple" = some (some (.ref f_Instance_as_tuple)))
    (fn_Instance_as_tuple : PySem.W.isFn K (.ref f_Instance_as_tuple) = true)
    (l_Instance_as_tuple : K.lookup f_Instance_as_tuple = some ⟨oc_Instance_as_tuple, od_Instance_as_tuple, .func (PySem.W.fnOf "as_tuple" "Instance.as_tuple" (defArgs Dn.s_Instance_as_tuple) (defBody Dn.s_Instance_as_tuple) (defScope Dn.s_Instance_as_tuple) .none kV_Instance_as_tuple dc_Instance_as_tuple pm_Instance_as_tuple an_Instance_as_tuple cd_Instance_as_tuple ct_Instance_as_tuple), sl_Instance_as_tuple⟩)
    (c_Instance_as_tuple : PySem.W.codeIn K cd_Instance_as_tuple "Instance.as_tuple" = true)
    (k_Instance_as_tuple : PySem.W.keepIn K (.ref f_Instance_as_tuple) = true)
    (a_Machine : PySem.W.nsIn K mainGlobals "Machine" = some (some (.ref C_Machine)))
    (cg_Machine : PySem.W.plainGet K C_Machine Str.empty = true)
    (cd_Machine : PySem.W.hasDictIn K C_Machine = true)
    (cp_Machine : PySem.W.plainOver K C_Machine = true)
    (cs_Machine : PySem.W.findIn K (.ref C_Machine) "__setattr__" = some (some (.builtin "object.__setattr__")))
    (n_Machine_graph : PySem.W.findIn K (.ref C_Machine) "graph" = some none)
    (n_Machine_sources : PySem.W.findIn K (.ref C_Machine) "sources" = some none)
    (n_Machine_instances : PySem.W.findIn K (.ref C_Machine) "instances" = some none)
    (n_Machine_current : PySem.W.findIn K (.ref C_Machine) "current" = some none)
    (n_Machine_listeners : PySem.W.findIn K (.ref C_Machine) "listeners" = some none)
    (n_Machine_carried : PySem.W.findIn K (.ref C_Machine) "carried" = some none)
    (n_Machine_trace : PySem.W.findIn K (.ref C_Machine) "trace" = some none)
    (mk_Machine : PySem.W.makesIn K C_Machine = true)
    (kp_Machine : PySem.W.keepIn K (.ref C_Machine) = true)
    (at_Machine___init__ : PySem.W.findIn K (.ref C_Machine) "__init__" = some (some (.ref f_Machine___init__)))
    (fn_Machine___init__ : PySem.W.isFn K (.ref f_Machine___init__) = true)
    (l_Machine___init__ : K.lookup f_Machine___init__ = some ⟨oc_Machine___init__, od_Machine___init__, .func (PySem.W.fnOf "__init__" "Machine.__init__" (defArgs Dn.s_Machine___init__) (defBody Dn.s_Machine___init__) (defScope Dn.s_Machine___init__) .none kV_Machine___init__ dc_Machine___init__ pm_Machine___init__ an_Machine___init__ cd_Machine___init__ ct_Machine___init__), sl_Machine___init__⟩)
    (c_Machine___init__ : PySem.W.codeIn K cd_Machine___init__ "Machine.__init__" = true)
    (k_Machine___init__ : PySem.W.keepIn K (.ref f_Machine___init__) = true)
    (at_Machine_run : PySem.W.findIn K (.ref C_Machine) "run" = some (some (.ref f_Machine_run)))
    (fn_Machine_run : PySem.W.isFn K (.ref f_Machine_run) = true)
    (l_Machine_run : K.lookup f_Machine_run = some ⟨oc_Machine_run, od_Machine_run, .func (PySem.W.fnOf "run" "Machine.run" (defArgs Dn.s_Machine_run) (defBody Dn.s_Machine_run) (defScope Dn.s_Machine_run) .none kV_Machine_run dc_Machine_run pm_Machine_run an_Machine_run cd_Machine_run ct_Machine_run), sl_Machine_run⟩)
    (c_Machine_run : PySem.W.codeIn K cd_Machine_run "Machine.run" = true)
    (k_Machine_run : PySem.W.keepIn K (.ref f_Machine_run) = true)
    (at_Machine_run_if_none : PySem.W.findIn K (.ref C_Machine) "run_if_none" = some (some (.ref f_Machine_run_if_none)))
    (fn_Machine_run_if_none : PySem.W.isFn K (.ref f_Machine_run_if_none) = true)
    (l_Machine_run_if_none : K.lookup f_Machine_run_if_none = some ⟨oc_Machine_run_if_none, od_Machine_run_if_none, .func (PySem.W.fnOf "run_if_none" "Machine.run_if_none" (defArgs Dn.s_Machine_run_if_none) (defBody Dn.s_Machine_run_if_none) (defScope Dn.s_Machine_run_if_none) .none kV_Machine_run_if_none dc_Machine_run_if_none pm_Machine_run_if_none an_Machine_run_if_none cd_Machine_run_if_none ct_Machine_run_if_none), sl_Machine_run_if_none⟩)
    (c_Machine_run_if_none : PySem.W.codeIn K cd_Machine_run_if_none "Machine.run_if_none" = true)
    (k_Machine_run_if_none : PySem.W.keepIn K (.ref f_Machine_run_if_none) = true)
    (at_Machine_give_birth : PySem.W.findIn K (.ref C_Machine) "give_birth" = some (some (.ref f_Machine_give_birth)))
    (fn_Machine_give_birth : PySem.W.isFn K (.ref f_Machine_give_birth) = true)
    (l_Machine_give_birth : K.lookup f_Machine_give_birth = some ⟨oc_Machine_give_birth, od_Machine_give_birth, .func (PySem.W.fnOf "give_birth" "Machine.give_birth" (defArgs Dn.s_Machine_give_birth) (defBody Dn.s_Machine_give_birth) (defScope Dn.s_Machine_give_birth) .none kV_Machine_give_birth dc_Machine_give_birth pm_Machine_give_birth an_Machine_give_birth cd_Machine_give_birth ct_Machine_give_birth), sl_Machine_give_birth⟩)
    (c_Machine_give_birth : PySem.W.codeIn K cd_Machine_give_birth "Machine.give_birth" = true)
    (k_Machine_give_birth : PySem.W.keepIn K (.ref f_Machine_give_birth) = true)
    (at_Machine_living : PySem.W.findIn K (.ref C_Machine) "living" = some (some (.ref f_Machine_living)))
    (fn_Machine_living : PySem.W.isFn K (.ref f_Machine_living) = true)
    (l_Machine_living : K.lookup f_Machine_living = some ⟨oc_Machine_living, od_Machine_living, .func (PySem.W.fnOf "living" "Machine.living" (defArgs Dn.s_Machine_living) (defBody Dn.s_Machine_living) (defScope Dn.s_Machine_living) .none kV_Machine_living dc_Machine_living pm_Machine_living an_Machine_living cd_Machine_living ct_Machine_living), sl_Machine_living⟩)
    (c_Machine_living : PySem.W.codeIn K cd_Machine_living "Machine.living" = true)
    (k_Machine_living : PySem.W.keepIn K (.ref f_Machine_living) = true)
    (at_Machine_do_rows : PySem.W.findIn K (.ref C_Machine) "do_rows" = some (some (.ref f_Machine_do_rows)))
    (fn_Machine_do_rows : PySem.W.isFn K (.ref f_Machine_do_rows) = true)
    (l_Machine_do_rows : K.lookup f_Machine_do_rows = some ⟨oc_Machine_do_rows, od_Machine_do_rows, .func (PySem.W.fnOf "do_rows" "Machine.do_rows" (defArgs Dn.s_Machine_do_rows) (defBody Dn.s_Machine_do_rows) (defScope Dn.s_Machine_do_rows) .none kV_Machine_do_rows dc_Machine_do_rows pm_Machine_do_rows an_Machine_do_rows cd_Machine_do_rows ct_Machine_do_rows), sl_Machine_do_rows⟩)
    (c_Machine_do_rows : PySem.W.codeIn K cd_Machine_do_rows "Machine.do_rows" = true)
    (k_Machine_do_rows : PySem.W.keepIn K (.ref f_Machine_do_rows) = true)
    (at_Machine_enter : PySem.W.findIn K (.ref C_Machine) "enter" = some (some (.ref f_Machine_enter)))
    (fn_Machine_enter : PySem.W.isFn K (.ref f_Machine_enter) = true)
    (l_Machine_enter : K.lookup f_Machine_enter = some ⟨oc_Machine_enter, od_Machine_enter, .func (PySem.W.fnOf "enter" "Machine.enter" (defArgs Dn.s_Machine_enter) (defBody Dn.s_Machine_enter) (defScope Dn.s_Machine_enter) .none kV_Machine_enter dc_Machine_enter pm_Machine_enter an_Machine_enter cd_Machine_enter ct_Machine_enter), sl_Machine_enter⟩)
    (c_Machine_enter : PySem.W.codeIn K cd_Machine_enter "Machine.enter" = true)
    (k_Machine_enter : PySem.W.keepIn K (.ref f_Machine_enter) = true)
    (at_Machine_fill : PySem.W.findIn K (.ref C_Machine) "fill" = some (some (.ref f_Machine_fill)))
    (fn_Machine_fill : PySem.W.isFn K (.ref f_Machine_fill) = true)
    (l_Machine_fill : K.lookup f_Machine_fill = some ⟨oc_Machine_fill, od_Machine_fill, .func (PySem.W.fnOf "fill" "Machine.fill" (defArgs Dn.s_Machine_fill) (defBody Dn.s_Machine_fill) (defScope Dn.s_Machine_fill) .none kV_Machine_fill dc_Machine_fill pm_Machine_fill an_Machine_fill cd_Machine_fill ct_Machine_fill), sl_Machine_fill⟩)
    (c_Machine_fill : PySem.W.codeIn K cd_Machine_fill "Machine.fill" = true)
    (k_Machine_fill : PySem.W.keepIn K (.ref f_Machine_fill) = true)
    (at_Machine_listen : PySem.W.findIn K (.ref C_Machine) "listen" = some (some (.ref f_Machine_listen)))
    (fn_Machine_listen : PySem.W.isFn K (.ref f_Machine_listen) = true)
    (l_Machine_listen : K.lookup f_Machine_listen = some ⟨oc_Machine_listen, od_Machine_listen, .func (PySem.W.fnOf "listen" "Machine.listen" (defArgs Dn.s_Machine_listen) (defBody Dn.s_Machine_listen) (defScope Dn.s_Machine_listen) .none kV_Machine_listen dc_Machine_listen pm_Machine_listen an_Machine_listen cd_Machine_listen ct_Machine_listen), sl_Machine_listen⟩)
    (c_Machine_listen : PySem.W.codeIn K cd_Machine_listen "Machine.listen" = true)
    (k_Machine_listen : PySem.W.keepIn K (.ref f_Machine_listen) = true)
    (at_Machine_as_state : PySem.W.findIn K (.ref C_Machine) "as_state" = some (some (.ref f_Machine_as_state)))
    (fn_Machine_as_state : PySem.W.isFn K (.ref f_Machine_as_state) = true)
    (l_Machine_as_state : K.lookup f_Machine_as_state = some ⟨oc_Machine_as_state, od_Machine_as_state, .func (PySem.W.fnOf "as_state" "Machine.as_state" (defArgs Dn.s_Machine_as_state) (defBody Dn.s_Machine_as_state) (defScope Dn.s_Machine_as_state) .none kV_Machine_as_state dc_Machine_as_state pm_Machine_as_state an_Machine_as_state cd_Machine_as_state ct_Machine_as_state), sl_Machine_as_state⟩)
    (c_Machine_as_state : PySem.W.codeIn K cd_Machine_as_state "Machine.as_state" = true)
    (k_Machine_as_state : PySem.W.keepIn K (.ref f_Machine_as_state) = true)
    (a_Graph : PySem.W.nsIn K mainGlobals "Graph" = some (some (.ref C_Graph)))
    (cg_Graph : PySem.W.plainGet K C_Graph Str.empty = true)
    (cd_Graph : PySem.W.hasDictIn K C_Graph = true)
    (cp_Graph : PySem.W.plainOver K C_Graph = true)
    (cs_Graph : PySem.W.findIn K (.ref C_Graph) "__setattr__" = some (some (.builtin "object.__setattr__")))
    (n_Graph_words : PySem.W.findIn K (.ref C_Graph) "words" = some none)
    (n_Graph_events : PySem.W.findIn K (.ref C_Graph) "events" = some none)
    (n_Graph_modules : PySem.W.findIn K (.ref C_Graph) "modules" = some none)
    (n_Graph_top : PySem.W.findIn K (.ref C_Graph) "top" = some none)
    (n_Graph_most : PySem.W.findIn K (.ref C_Graph) "most" = some none)
    (n_Graph_names : PySem.W.findIn K (.ref C_Graph) "names" = some none)
    (mk_Graph : PySem.W.makesIn K C_Graph = true)
    (kp_Graph : PySem.W.keepIn K (.ref C_Graph) = true)
    (at_Graph___init__ : PySem.W.findIn K (.ref C_Graph) "__init__" = some (some (.ref f_Graph___init__)))
    (fn_Graph___init__ : PySem.W.isFn K (.ref f_Graph___init__) = true)
    (l_Graph___init__ : K.lookup f_Graph___init__ = some ⟨oc_Graph___init__, od_Graph___init__, .func (PySem.W.fnOf "__init__" "Graph.__init__" (defArgs s_Graph___init__) (defBody s_Graph___init__) (defScope s_Graph___init__) .none (.ref kD_Graph___init__) dc_Graph___init__ pm_Graph___init__ an_Graph___init__ cd_Graph___init__ ct_Graph___init__), sl_Graph___init__⟩)
    (c_Graph___init__ : PySem.W.codeIn K cd_Graph___init__ "Graph.__init__" = true)
    (k_Graph___init__ : PySem.W.keepIn K (.ref f_Graph___init__) = true)
    (nk_Graph___init__ : PySem.W.nsIn K kD_Graph___init__ "most" = some (some (.int 5 tk_Graph___init__)))
    (at_Graph_editions : PySem.W.findIn K (.ref C_Graph) "editions" = some (some (.ref f_Graph_editions)))
    (fn_Graph_editions : PySem.W.isFn K (.ref f_Graph_editions) = true)
    (l_Graph_editions : K.lookup f_Graph_editions = some ⟨oc_Graph_editions, od_Graph_editions, .func (PySem.W.fnOf "editions" "Graph.editions" (defArgs Dn.s_Graph_editions) (defBody Dn.s_Graph_editions) (defScope Dn.s_Graph_editions) .none kV_Graph_editions dc_Graph_editions pm_Graph_editions an_Graph_editions cd_Graph_editions ct_Graph_editions), sl_Graph_editions⟩)
    (c_Graph_editions : PySem.W.codeIn K cd_Graph_editions "Graph.editions" = true)
    (k_Graph_editions : PySem.W.keepIn K (.ref f_Graph_editions) = true)
    (at_Graph_all_sources : PySem.W.findIn K (.ref C_Graph) "all_sources" = some (some (.ref f_Graph_all_sources)))
    (fn_Graph_all_sources : PySem.W.isFn K (.ref f_Graph_all_sources) = true)
    (l_Graph_all_sources : K.lookup f_Graph_all_sources = some ⟨oc_Graph_all_sources, od_Graph_all_sources, .func (PySem.W.fnOf "all_sources" "Graph.all_sources" (defArgs Dn.s_Graph_all_sources) (defBody Dn.s_Graph_all_sources) (defScope Dn.s_Graph_all_sources) .none kV_Graph_all_sources dc_Graph_all_sources pm_Graph_all_sources an_Graph_all_sources cd_Graph_all_sources ct_Graph_all_sources), sl_Graph_all_sources⟩)
    (c_Graph_all_sources : PySem.W.codeIn K cd_Graph_all_sources "Graph.all_sources" = true)
    (k_Graph_all_sources : PySem.W.keepIn K (.ref f_Graph_all_sources) = true)
    (at_Graph___len__ : PySem.W.findIn K (.ref C_Graph) "__len__" = some (some (.ref f_Graph___len__)))
    (fn_Graph___len__ : PySem.W.isFn K (.ref f_Graph___len__) = true)
    (l_Graph___len__ : K.lookup f_Graph___len__ = some ⟨oc_Graph___len__, od_Graph___len__, .func (PySem.W.fnOf "__len__" "Graph.__len__" (defArgs Dn.s_Graph___len__) (defBody Dn.s_Graph___len__) (defScope Dn.s_Graph___len__) .none kV_Graph___len__ dc_Graph___len__ pm_Graph___len__ an_Graph___len__ cd_Graph___len__ ct_Graph___len__), sl_Graph___len__⟩)
    (c_Graph___len__ : PySem.W.codeIn K cd_Graph___len__ "Graph.__len__" = true)
    (k_Graph___len__ : PySem.W.keepIn K (.ref f_Graph___len__) = true)
    (at_Graph_check_starts : PySem.W.findIn K (.ref C_Graph) "check_starts" = some (some (.ref f_Graph_check_starts)))
    (fn_Graph_check_starts : PySem.W.isFn K (.ref f_Graph_check_starts) = true)
    (l_Graph_check_starts : K.lookup f_Graph_check_starts = some ⟨oc_Graph_check_starts, od_Graph_check_starts, .func (PySem.W.fnOf "check_starts" "Graph.check_starts" (defArgs Dn.s_Graph_check_starts) (defBody Dn.s_Graph_check_starts) (defScope Dn.s_Graph_check_starts) .none kV_Graph_check_starts dc_Graph_check_starts pm_Graph_check_starts an_Graph_check_starts cd_Graph_check_starts ct_Graph_check_starts), sl_Graph_check_starts⟩)
    (c_Graph_check_starts : PySem.W.codeIn K cd_Graph_check_starts "Graph.check_starts" = true)
    (k_Graph_check_starts : PySem.W.keepIn K (.ref f_Graph_check_starts) = true)
    (z_ValueError : PySem.W.nsIn K mainGlobals "ValueError" = some none)
    (z_abs : PySem.W.nsIn K mainGlobals "abs" = some none)
    (z_all : PySem.W.nsIn K mainGlobals "all" = some none)
    (z_any : PySem.W.nsIn K mainGlobals "any" = some none)
    (z_bool : PySem.W.nsIn K mainGlobals "bool" = some none)
    (z_dict : PySem.W.nsIn K mainGlobals "dict" = some none)
    (z_enumerate : PySem.W.nsIn K mainGlobals "enumerate" = some none)
    (z_int : PySem.W.nsIn K mainGlobals "int" = some none)
    (z_isinstance : PySem.W.nsIn K mainGlobals "isinstance" = some none)
    (z_len : PySem.W.nsIn K mainGlobals "len" = some none)
    (z_list : PySem.W.nsIn K mainGlobals "list" = some none)
    (z_max : PySem.W.nsIn K mainGlobals "max" = some none)
    (z_min : PySem.W.nsIn K mainGlobals "min" = some none)
    (z_range : PySem.W.nsIn K mainGlobals "range" = some none)
    (z_sorted : PySem.W.nsIn K mainGlobals "sorted" = some none)
    (z_str : PySem.W.nsIn K mainGlobals "str" = some none)
    (z_sum : PySem.W.nsIn K mainGlobals "sum" = some none)
    (z_tuple : PySem.W.nsIn K mainGlobals "tuple" = some none)
    (z_zip : PySem.W.nsIn K mainGlobals "zip" = some none)
    (a_is_accepts_item : PySem.W.nsIn K mainGlobals "is_accepts_item" = some (some (.ref f_is_accepts_item)))
    (l_is_accepts_item : K.lookup f_is_accepts_item = some ⟨oc_is_accepts_item, od_is_accepts_item, .func (PySem.W.fnOf "is_accepts_item" "is_accepts_item" (defArgs (top 35)) (defBody (top 35)) (defScope (top 35)) .none kV_is_accepts_item dc_is_accepts_item pm_is_accepts_item an_is_accepts_item cd_is_accepts_item ct_is_accepts_item), sl_is_accepts_item⟩)
    (c_is_accepts_item : PySem.W.codeIn K cd_is_accepts_item "is_accepts_item" = true)
    (k_is_accepts_item : PySem.W.keepIn K (.ref f_is_accepts_item) = true)
    (a_is_cell_row : PySem.W.nsIn K mainGlobals "is_cell_row" = some (some (.ref f_is_cell_row)))
    (l_is_cell_row : K.lookup f_is_cell_row = some ⟨oc_is_cell_row, od_is_cell_row, .func (PySem.W.fnOf "is_cell_row" "is_cell_row" (defArgs (top 33)) (defBody (top 33)) (defScope (top 33)) .none kV_is_cell_row dc_is_cell_row pm_is_cell_row an_is_cell_row cd_is_cell_row ct_is_cell_row), sl_is_cell_row⟩)
    (c_is_cell_row : PySem.W.codeIn K cd_is_cell_row "is_cell_row" = true)
    (k_is_cell_row : PySem.W.keepIn K (.ref f_is_cell_row) = true)
    (a_is_linking_row : PySem.W.nsIn K mainGlobals "is_linking_row" = some (some (.ref f_is_linking_row)))
    (l_is_linking_row : K.lookup f_is_linking_row = some ⟨oc_is_linking_row, od_is_linking_row, .func (PySem.W.fnOf "is_linking_row" "is_linking_row" (defArgs (top 34)) (defBody (top 34)) (defScope (top 34)) .none kV_is_linking_row dc_is_linking_row pm_is_linking_row an_is_linking_row cd_is_linking_row ct_is_linking_row), sl_is_linking_row⟩)
    (c_is_linking_row : PySem.W.codeIn K cd_is_linking_row "is_linking_row" = true)
    (k_is_linking_row : PySem.W.keepIn K (.ref f_is_linking_row) = true)
    (a_is_cleanup_row : PySem.W.nsIn K mainGlobals "is_cleanup_row" = some (some (.ref f_is_cleanup_row)))
    (l_is_cleanup_row : K.lookup f_is_cleanup_row = some ⟨oc_is_cleanup_row, od_is_cleanup_row, .func (PySem.W.fnOf "is_cleanup_row" "is_cleanup_row" (defArgs (top 36)) (defBody (top 36)) (defScope (top 36)) .none kV_is_cleanup_row dc_is_cleanup_row pm_is_cleanup_row an_is_cleanup_row cd_is_cleanup_row ct_is_cleanup_row), sl_is_cleanup_row⟩)
    (c_is_cleanup_row : PySem.W.codeIn K cd_is_cleanup_row "is_cleanup_row" = true)
    (k_is_cleanup_row : PySem.W.keepIn K (.ref f_is_cleanup_row) = true)
    (a_LETTERS : PySem.W.nsIn K mainGlobals "LETTERS" = some (some (.str AZ tok_LETTERS)))
    (a_TooMany : PySem.W.nsIn K mainGlobals "TooMany" = some (some (.ref C_TooMany))) :
    ∃ fd : FuncData, (∀ (s : Shared) (v : Value), BindsTo s fd ⟨[v], []⟩ [("_law_script", v)]) ∧ ∀ base : Heap, K.In base → base.Ns mainGlobals mg → FnOk l.prog w K mg base CX0 21 fa fd ["_law_script"] (spLaw K) := by
  have e := hfa.symm.trans (PySem.W.mg_of X G a_law)
  cases e
  have F_is_integer := fun_mk (st := s_is_integer) l_is_integer c_is_integer k_is_integer
  have b_is_integer := F_is_integer.binds (ps := ["value"]) fun _ _ _ _ _ _ us hl => match us, hl with | [_], _ => rfl
  have m_is_integer := PySem.W.mg_of X G a_is_integer
  have F_is_index := fun_mk (st := s_is_index) l_is_index c_is_index k_is_index
  have b_is_index := F_is_index.binds (ps := ["value", "many"]) fun _ _ _ _ _ _ us hl => match us, hl with | [_, _], _ => rfl
  have m_is_index := PySem.W.mg_of X G a_is_index
  have F_is_name := fun_mk (st := s_is_name) l_is_name c_is_name k_is_name
  have b_is_name := F_is_name.binds (ps := ["value"]) fun _ _ _ _ _ _ us hl => match us, hl with | [_], _ => rfl
  have m_is_name := PySem.W.mg_of X G a_is_name
  have F_is_tuple := fun_mk (st := s_is_tuple) l_is_tuple c_is_tuple k_is_tuple
  have b_is_tuple := F_is_tuple.binds (ps := ["value", "fewest", "most"]) fun _ _ _ _ _ _ us hl => match us, hl with | [_, _, _], _ => rfl
  have m_is_tuple := PySem.W.mg_of X G a_is_tuple
  have F_wrong_names := fun_mk (st := s_wrong_names) l_wrong_names c_wrong_names k_wrong_names
  have b_wrong_names := F_wrong_names.binds (ps := ["value", "fewest", "most"]) fun _ _ _ _ _ _ us hl => match us, hl with | [_, _, _], _ => rfl
  have m_wrong_names := PySem.W.mg_of X G a_wrong_names
  have F_wrong_imports := fun_mk (st := s_wrong_imports) l_wrong_imports c_wrong_imports k_wrong_imports
  have b_wrong_imports := F_wrong_imports.binds (ps := ["imports", "others"]) fun _ _ _ _ _ _ us hl => match us, hl with | [_, _], _ => rfl
  have m_wrong_imports := PySem.W.mg_of X G a_wrong_imports
  have F_wrong_accepts := fun_mk (st := s_wrong_accepts) l_wrong_accepts c_wrong_accepts k_wrong_accepts
  have b_wrong_accepts := F_wrong_accepts.binds (ps := ["accepts", "imports", "events"]) fun _ _ _ _ _ _ us hl => match us, hl with | [_, _, _], _ => rfl
  have m_wrong_accepts := PySem.W.mg_of X G a_wrong_accepts
  have F_wrong_body := fun_mk (st := s_wrong_body) l_wrong_body c_wrong_body k_wrong_body
  have b_wrong_body := F_wrong_body.binds (ps := ["body", "imports", "words", "events"]) fun _ _ _ _ _ _ us hl => match us, hl with | [_, _, _, _], _ => rfl
  have m_wrong_body := PySem.W.mg_of X G a_wrong_body
  have F_wrong_cleanup := fun_mk (st := s_wrong_cleanup) l_wrong_cleanup c_wrong_cleanup k_wrong_cleanup
  have b_wrong_cleanup := F_wrong_cleanup.binds (ps := ["cleanup", "imports"]) fun _ _ _ _ _ _ us hl => match us, hl with | [_, _], _ => rfl
  have m_wrong_cleanup := PySem.W.mg_of X G a_wrong_cleanup
  have F_is_module := fun_mk (st := s_is_module) l_is_module c_is_module k_is_module
  have b_is_module := F_is_module.binds (ps := ["item", "earlier"]) fun _ _ _ _ _ _ us hl => match us, hl with | [_, _], _ => rfl
  have m_is_module := PySem.W.mg_of X G a_is_module
  have F_wrong_edition := fun_mk (st := s_wrong_edition) l_wrong_edition c_wrong_edition k_wrong_edition
  have b_wrong_edition := F_wrong_edition.binds (ps := ["edition", "others", "words", "events"]) fun _ _ _ _ _ _ us hl => match us, hl with | [_, _, _, _], _ => rfl
  have m_wrong_edition := PySem.W.mg_of X G a_wrong_edition
  have F_wrong_modules := fun_mk (st := s_wrong_modules) l_wrong_modules c_wrong_modules k_wrong_modules
  have b_wrong_modules := F_wrong_modules.binds (ps := ["value", "words", "events"]) fun _ _ _ _ _ _ us hl => match us, hl with | [_, _, _], _ => rfl
  have m_wrong_modules := PySem.W.mg_of X G a_wrong_modules
  have F_check_parts := fun_mk (st := s_check_parts) l_check_parts c_check_parts k_check_parts
  have b_check_parts := F_check_parts.binds (ps := ["words", "events", "modules", "top", "most"]) fun _ _ _ _ _ _ us hl => match us, hl with | [_, _, _, _, _], _ => rfl
  have m_check_parts := PySem.W.mg_of X G a_check_parts
  have F__law_pool := fun_mk (st := s__law_pool) l__law_pool c__law_pool k__law_pool
  have b__law_pool := F__law_pool.binds (ps := ["_law_script"]) fun _ _ _ _ _ _ us hl => match us, hl with | [_], _ => rfl
  have m__law_pool := PySem.W.mg_of X G a__law_pool
  have F__law_draw := fun_mk (st := s__law_draw) l__law_draw c__law_draw k__law_draw
  have b__law_draw := F__law_draw.binds (ps := ["_law_pool_here", "_law_many"]) fun _ _ _ _ _ _ us hl => match us, hl with | [_, _], _ => rfl
  have m__law_draw := PySem.W.mg_of X G a__law_draw
  have F__law_pick := fun_mk (st := s__law_pick) l__law_pick c__law_pick k__law_pick
  have b__law_pick := F__law_pick.binds (ps := ["_law_pool_here", "_law_items"]) fun _ _ _ _ _ _ us hl => match us, hl with | [_, _], _ => rfl
  have m__law_pick := PySem.W.mg_of X G a__law_pick
  have F__law_name := fun_mk (st := s__law_name) l__law_name c__law_name k__law_name
  have b__law_name := F__law_name.binds (ps := ["_law_pool_here", "_law_taken"]) fun _ _ _ _ _ _ us hl => match us, hl with | [_, _], _ => rfl
  have m__law_name := PySem.W.mg_of X G a__law_name
  have F__law_names := fun_mk (st := s__law_names) l__law_names c__law_names k__law_names
  have b__law_names := F__law_names.binds (ps := ["_law_pool_here", "_law_count"]) fun _ _ _ _ _ _ us hl => match us, hl with | [_, _], _ => rfl
  have m__law_names := PySem.W.mg_of X G a__law_names
  have F__law_same := fun_mk (st := s__law_same) l__law_same c__law_same k__law_same
  have b__law_same := F__law_same.binds (ps := ["_law_a", "_law_b"]) fun _ _ _ _ _ _ us hl => match us, hl with | [_, _], _ => rfl
  have m__law_same := PySem.W.mg_of X G a__law_same
  have F__law_sign := fun_mk (st := s__law_sign) l__law_sign c__law_sign k__law_sign
  have b__law_sign := F__law_sign.binds (ps := ["_law_pool_here"]) fun _ _ _ _ _ _ us hl => match us, hl with | [_], _ => rfl
  have m__law_sign := PySem.W.mg_of X G a__law_sign
  have F__law_bad := fun_mk (st := s__law_bad) l__law_bad c__law_bad k__law_bad
  have b__law_bad := F__law_bad.binds (ps := ["_law_pool_here"]) fun _ _ _ _ _ _ us hl => match us, hl with | [_], _ => rfl
  have m__law_bad := PySem.W.mg_of X G a__law_bad
  have F__law_value := fun_mk (st := s__law_value) l__law_value c__law_value k__law_value
  have b__law_value := F__law_value.binds (ps := ["_law_pool_here", "_law_most_names"]) fun _ _ _ _ _ _ us hl => match us, hl with | [_, _], _ => rfl
  have m__law_value := PySem.W.mg_of X G a__law_value
  have F__law_is_name := fun_mk (st := s__law_is_name) l__law_is_name c__law_is_name k__law_is_name
  have b__law_is_name := F__law_is_name.binds (ps := ["_law_value_here"]) fun _ _ _ _ _ _ us hl => match us, hl with | [_], _ => rfl
  have m__law_is_name := PySem.W.mg_of X G a__law_is_name
  have F__law_due := fun_mk (st := s__law_due) l__law_due c__law_due k__law_due
  have b__law_due := F__law_due.binds (ps := ["_law_value_here", "_law_least", "_law_greatest"]) fun _ _ _ _ _ _ us hl => match us, hl with | [_, _, _], _ => rfl
  have m__law_due := PySem.W.mg_of X G a__law_due
  have F__law_asked := fun_mk (st := s__law_asked) l__law_asked c__law_asked k__law_asked
  have b__law_asked := F__law_asked.binds (ps := ["_law_words", "_law_events"]) fun _ _ _ _ _ _ us hl => match us, hl with | [_, _], _ => rfl
  have m__law_asked := PySem.W.mg_of X G a__law_asked
  have F_law := fun_mk (st := s_law) l_law c_law k_law
  have b_law := F_law.binds (ps := ["_law_script"]) fun _ _ _ _ _ _ us hl => match us, hl with | [_], _ => rfl
  have m_law := PySem.W.mg_of X G a_law
  have F_is_sources := fun_mk (st := Dn.s_is_sources) l_is_sources c_is_sources k_is_sources
  have b_is_sources := F_is_sources.binds (ps := ["graph", "value"]) fun _ _ _ _ _ _ us hl => match us, hl with | [_, _], _ => rfl
  have m_is_sources := PySem.W.mg_of X G a_is_sources
  have F_reached := fun_mk (st := Dn.s_reached) l_reached c_reached k_reached
  have b_reached := F_reached.binds (ps := ["roots", "links"]) fun _ _ _ _ _ _ us hl => match us, hl with | [_, _], _ => rfl
  have m_reached := PySem.W.mg_of X G a_reached
  have F_start := fun_mk (st := Dn.s_start) l_start c_start k_start
  have b_start := F_start.binds (ps := ["graph", "sources"]) fun _ _ _ _ _ _ us hl => match us, hl with | [_, _], _ => rfl
  have m_start := PySem.W.mg_of X G a_start
  have F_position := fun_mk (st := Dn.s_position) l_position c_position k_position
  have b_position := F_position.binds (ps := ["items", "wanted"]) fun _ _ _ _ _ _ us hl => match us, hl with | [_, _], _ => rfl
  have m_position := PySem.W.mg_of X G a_position
  have sup : Sup K mg "SwapError" S := ⟨PySem.W.mg_of X G a_S, ⟨rd_S, ga_S⟩, vv_S⟩
  have sc : SC K S := ⟨ic_S, ty_S⟩
  have ob : Obc K := ⟨ob_n, ob_t⟩
  have F_InvalidGraph_i := fun_mk (st := s_InvalidGraph___init__) l_InvalidGraph_i c_InvalidGraph_i k_InvalidGraph_i
  have b_InvalidGraph_i := F_InvalidGraph_i.binds (ps := ["self", "part", "path"]) fun _ _ _ _ _ _ us hl => match us, hl with | [_, _, _], _ => rfl
  have m_InvalidGraph := PySem.W.mg_of X G a_InvalidGraph
  have xc_InvalidGraph : XC K C_InvalidGraph S := ⟨⟨_, _, _, _, _, _, _, _, _, _, _, _, _, _, x_InvalidGraph⟩, sa_InvalidGraph, ga_InvalidGraph, gg_InvalidGraph, ca_InvalidGraph, kc_InvalidGraph⟩
  obtain rfl : C_Instance = He.ga K "Instance" := by
    unfold He.ga
    rw [a_Instance]
  have cl_Instance : Cls K (He.ga K "Instance") := ⟨cg_Instance, cd_Instance, cp_Instance, cs_Instance⟩
  have m_Instance := PySem.W.mg_of X G a_Instance
  have F_Instance___init__ := fun_mk (st := Dn.s_Instance___init__) l_Instance___init__ c_Instance___init__ k_Instance___init__
  have b_Instance___init__ := F_Instance___init__.binds (ps := ["self", "module", "edition", "word", "holds", "entries"]) fun _ _ _ _ _ _ us hl => match us, hl with | [_, _, _, _, _, _], _ => rfl
  have F_Instance_links := fun_mk (st := Dn.s_Instance_links) l_Instance_links c_Instance_links k_Instance_links
  have b_Instance_links := F_Instance_links.binds (ps := ["self"]) fun _ _ _ _ _ _ us hl => match us, hl with | [_], _ => rfl
  have F_Instance_as_tuple := fun_mk (st := Dn.s_Instance_as_tuple) l_Instance_as_tuple c_Instance_as_tuple k_Instance_as_tuple
  have b_Instance_as_tuple := F_Instance_as_tuple.binds (ps := ["self", "indexes"]) fun _ _ _ _ _ _ us hl => match us, hl with | [_, _], _ => rfl
  obtain rfl : C_Machine = He.ga K "Machine" := by
    unfold He.ga
    rw [a_Machine]
  have cl_Machine : Cls K (He.ga K "Machine") := ⟨cg_Machine, cd_Machine, cp_Machine, cs_Machine⟩
  have m_Machine := PySem.W.mg_of X G a_Machine
  have F_Machine___init__ := fun_mk (st := Dn.s_Machine___init__) l_Machine___init__ c_Machine___init__ k_Machine___init__
  have b_Machine___init__ := F_Machine___init__.binds (ps := ["self", "graph", "sources"]) fun _ _ _ _ _ _ us hl => match us, hl with | [_, _, _], _ => rfl
  have F_Machine_run := fun_mk (st := Dn.s_Machine_run) l_Machine_run c_Machine_run k_Machine_run
  have b_Machine_run := F_Machine_run.binds (ps := ["self", "name"]) fun _ _ _ _ _ _ us hl => match us, hl with | [_, _], _ => rfl
  have F_Machine_run_if_none := fun_mk (st := Dn.s_Machine_run_if_none) l_Machine_run_if_none c_Machine_run_if_none k_Machine_run_if_none
  have b_Machine_run_if_none := F_Machine_run_if_none.binds (ps := ["self", "name"]) fun _ _ _ _ _ _ us hl => match us, hl with | [_, _], _ => rfl
  have F_Machine_give_birth := fun_mk (st := Dn.s_Machine_give_birth) l_Machine_give_birth c_Machine_give_birth k_Machine_give_birth
  have b_Machine_give_birth := F_Machine_give_birth.binds (ps := ["self", "name", "edition"]) fun _ _ _ _ _ _ us hl => match us, hl with | [_, _, _], _ => rfl
  have F_Machine_living := fun_mk (st := Dn.s_Machine_living) l_Machine_living c_Machine_living k_Machine_living
  have b_Machine_living := F_Machine_living.binds (ps := ["self"]) fun _ _ _ _ _ _ us hl => match us, hl with | [_], _ => rfl
  have F_Machine_do_rows := fun_mk (st := Dn.s_Machine_do_rows) l_Machine_do_rows c_Machine_do_rows k_Machine_do_rows
  have b_Machine_do_rows := F_Machine_do_rows.binds (ps := ["self", "number", "rows"]) fun _ _ _ _ _ _ us hl => match us, hl with | [_, _, _], _ => rfl
  have F_Machine_enter := fun_mk (st := Dn.s_Machine_enter) l_Machine_enter c_Machine_enter k_Machine_enter
  have b_Machine_enter := F_Machine_enter.binds (ps := ["self", "number", "name"]) fun _ _ _ _ _ _ us hl => match us, hl with | [_, _, _], _ => rfl
  have F_Machine_fill := fun_mk (st := Dn.s_Machine_fill) l_Machine_fill c_Machine_fill k_Machine_fill
  have b_Machine_fill := F_Machine_fill.binds (ps := ["self", "number", "word"]) fun _ _ _ _ _ _ us hl => match us, hl with | [_, _, _], _ => rfl
  have F_Machine_listen := fun_mk (st := Dn.s_Machine_listen) l_Machine_listen c_Machine_listen k_Machine_listen
  have b_Machine_listen := F_Machine_listen.binds (ps := ["self", "number", "row"]) fun _ _ _ _ _ _ us hl => match us, hl with | [_, _, _], _ => rfl
  have F_Machine_as_state := fun_mk (st := Dn.s_Machine_as_state) l_Machine_as_state c_Machine_as_state k_Machine_as_state
  have b_Machine_as_state := F_Machine_as_state.binds (ps := ["self"]) fun _ _ _ _ _ _ us hl => match us, hl with | [_], _ => rfl
  obtain rfl : C_Graph = He.ga K "Graph" := by
    unfold He.ga
    rw [a_Graph]
  have cl_Graph : Cls K (He.ga K "Graph") := ⟨cg_Graph, cd_Graph, cp_Graph, cs_Graph⟩
  have m_Graph := PySem.W.mg_of X G a_Graph
  have F_Graph___init__ : FunD K "__init__" "Graph.__init__" (defArgs s_Graph___init__) (defBody s_Graph___init__) (defScope s_Graph___init__) [] [("most", .int 5)] f_Graph___init__ _ := ⟨⟨_, _, _, _, _, _, _, _, _, _, rfl, l_Graph___init__, c_Graph___init__, .inl ⟨rfl, rfl⟩, .inr ⟨_, rfl, fun q hq => by
    rw [List.mem_singleton.mp hq]
    exact ⟨_, nk_Graph___init__, ⟨_, rfl⟩⟩⟩⟩, k_Graph___init__⟩
  have F_Graph_editions := fun_mk (st := Dn.s_Graph_editions) l_Graph_editions c_Graph_editions k_Graph_editions
  have b_Graph_editions := F_Graph_editions.binds (ps := ["self", "name"]) fun _ _ _ _ _ _ us hl => match us, hl with | [_, _], _ => rfl
  have F_Graph_all_sources := fun_mk (st := Dn.s_Graph_all_sources) l_Graph_all_sources c_Graph_all_sources k_Graph_all_sources
  have b_Graph_all_sources := F_Graph_all_sources.binds (ps := ["self"]) fun _ _ _ _ _ _ us hl => match us, hl with | [_], _ => rfl
  have F_Graph___len__ := fun_mk (st := Dn.s_Graph___len__) l_Graph___len__ c_Graph___len__ k_Graph___len__
  have b_Graph___len__ := F_Graph___len__.binds (ps := ["self"]) fun _ _ _ _ _ _ us hl => match us, hl with | [_], _ => rfl
  have F_Graph_check_starts := fun_mk (st := Dn.s_Graph_check_starts) l_Graph_check_starts c_Graph_check_starts k_Graph_check_starts
  have b_Graph_check_starts := F_Graph_check_starts.binds (ps := ["self"]) fun _ _ _ _ _ _ us hl => match us, hl with | [_], _ => rfl
  have hf_module : HasF K "module" ["Instance"] := fun n hn => by
    rcases List.mem_cons.mp hn with rfl | hn
    · exact ⟨cl_Instance, n_Instance_module⟩
    exact absurd hn List.not_mem_nil
  have hf_edition : HasF K "edition" ["Instance"] := fun n hn => by
    rcases List.mem_cons.mp hn with rfl | hn
    · exact ⟨cl_Instance, n_Instance_edition⟩
    exact absurd hn List.not_mem_nil
  have hf_word : HasF K "word" ["Instance"] := fun n hn => by
    rcases List.mem_cons.mp hn with rfl | hn
    · exact ⟨cl_Instance, n_Instance_word⟩
    exact absurd hn List.not_mem_nil
  have hf_holds : HasF K "holds" ["Instance"] := fun n hn => by
    rcases List.mem_cons.mp hn with rfl | hn
    · exact ⟨cl_Instance, n_Instance_holds⟩
    exact absurd hn List.not_mem_nil
  have hf_entries : HasF K "entries" ["Instance"] := fun n hn => by
    rcases List.mem_cons.mp hn with rfl | hn
    · exact ⟨cl_Instance, n_Instance_entries⟩
    exact absurd hn List.not_mem_nil
  have hf_graph : HasF K "graph" ["Machine"] := fun n hn => by
    rcases List.mem_cons.mp hn with rfl | hn
    · exact ⟨cl_Machine, n_Machine_graph⟩
    exact absurd hn List.not_mem_nil
  have hf_sources : HasF K "sources" ["Machine"] := fun n hn => by
    rcases List.mem_cons.mp hn with rfl | hn
    · exact ⟨cl_Machine, n_Machine_sources⟩
    exact absurd hn List.not_mem_nil
  have hf_instances : HasF K "instances" ["Machine"] := fun n hn => by
    rcases List.mem_cons.mp hn with rfl | hn
    · exact ⟨cl_Machine, n_Machine_instances⟩
    exact absurd hn List.not_mem_nil
  have hf_current : HasF K "current" ["Machine"] := fun n hn => by
    rcases List.mem_cons.mp hn with rfl | hn
    · exact ⟨cl_Machine, n_Machine_current⟩
    exact absurd hn List.not_mem_nil
  have hf_listeners : HasF K "listeners" ["Machine"] := fun n hn => by
    rcases List.mem_cons.mp hn with rfl | hn
    · exact ⟨cl_Machine, n_Machine_listeners⟩
    exact absurd hn List.not_mem_nil
  have hf_carried : HasF K "carried" ["Machine"] := fun n hn => by
    rcases List.mem_cons.mp hn with rfl | hn
    · exact ⟨cl_Machine, n_Machine_carried⟩
    exact absurd hn List.not_mem_nil
  have hf_trace : HasF K "trace" ["Machine"] := fun n hn => by
    rcases List.mem_cons.mp hn with rfl | hn
    · exact ⟨cl_Machine, n_Machine_trace⟩
    exact absurd hn List.not_mem_nil
  have hf_words : HasF K "words" ["Graph"] := fun n hn => by
    rcases List.mem_cons.mp hn with rfl | hn
    · exact ⟨cl_Graph, n_Graph_words⟩
    exact absurd hn List.not_mem_nil
  have hf_events : HasF K "events" ["Graph"] := fun n hn => by
    rcases List.mem_cons.mp hn with rfl | hn
    · exact ⟨cl_Graph, n_Graph_events⟩
    exact absurd hn List.not_mem_nil
  have hf_modules : HasF K "modules" ["Graph"] := fun n hn => by
    rcases List.mem_cons.mp hn with rfl | hn
    · exact ⟨cl_Graph, n_Graph_modules⟩
    exact absurd hn List.not_mem_nil
  have hf_top : HasF K "top" ["Graph"] := fun n hn => by
    rcases List.mem_cons.mp hn with rfl | hn
    · exact ⟨cl_Graph, n_Graph_top⟩
    exact absurd hn List.not_mem_nil
  have hf_most : HasF K "most" ["Graph"] := fun n hn => by
    rcases List.mem_cons.mp hn with rfl | hn
    · exact ⟨cl_Graph, n_Graph_most⟩
    exact absurd hn List.not_mem_nil
  have hf_names : HasF K "names" ["Graph"] := fun n hn => by
    rcases List.mem_cons.mp hn with rfl | hn
    · exact ⟨cl_Graph, n_Graph_names⟩
    exact absurd hn List.not_mem_nil
  have T : Txt K mg := ⟨PySem.W.mg_none_of X G z_len, PySem.W.mg_none_of X G z_abs, PySem.W.mg_none_of X G z_int, PySem.W.mg_none_of X G z_isinstance, PySem.W.mg_none_of X G z_tuple, PySem.W.mg_none_of X G z_list, PySem.W.mg_none_of X G z_dict, PySem.W.mg_none_of X G z_str, PySem.W.mg_none_of X G z_bool, PySem.W.mg_none_of X G z_all, PySem.W.mg_none_of X G z_range, PySem.W.mg_none_of X G z_zip, PySem.W.mg_none_of X G z_ValueError⟩
  have TN : TxN mg := ⟨PySem.W.mg_none_of X G z_len, PySem.W.mg_none_of X G z_abs, PySem.W.mg_none_of X G z_int, PySem.W.mg_none_of X G z_max, PySem.W.mg_none_of X G z_min, PySem.W.mg_none_of X G z_sum, PySem.W.mg_none_of X G z_isinstance, PySem.W.mg_none_of X G z_tuple, PySem.W.mg_none_of X G z_list, PySem.W.mg_none_of X G z_dict, PySem.W.mg_none_of X G z_str, PySem.W.mg_none_of X G z_bool, PySem.W.mg_none_of X G z_all, PySem.W.mg_none_of X G z_any, PySem.W.mg_none_of X G z_range, PySem.W.mg_none_of X G z_zip, PySem.W.mg_none_of X G z_enumerate, PySem.W.mg_none_of X G z_sorted⟩
  have F_is_accepts_item := fun_mk (st := (top 35)) l_is_accepts_item c_is_accepts_item k_is_accepts_item
  have b_is_accepts_item := F_is_accepts_item.binds (ps := ["item", "imports", "events"]) fun _ _ _ _ _ _ us hl => match us, hl with | [_, _, _], _ => rfl
  have m_is_accepts_item := PySem.W.mg_of X G a_is_accepts_item
  have F_is_cell_row := fun_mk (st := (top 33)) l_is_cell_row c_is_cell_row k_is_cell_row
  have b_is_cell_row := F_is_cell_row.binds (ps := ["row", "words"]) fun _ _ _ _ _ _ us hl => match us, hl with | [_, _], _ => rfl
  have m_is_cell_row := PySem.W.mg_of X G a_is_cell_row
  have F_is_linking_row := fun_mk (st := (top 34)) l_is_linking_row c_is_linking_row k_is_linking_row
  have b_is_linking_row := F_is_linking_row.binds (ps := ["row", "imports", "events"]) fun _ _ _ _ _ _ us hl => match us, hl with | [_, _, _], _ => rfl
  have m_is_linking_row := PySem.W.mg_of X G a_is_linking_row
  have F_is_cleanup_row := fun_mk (st := (top 36)) l_is_cleanup_row c_is_cleanup_row k_is_cleanup_row
  have b_is_cleanup_row := F_is_cleanup_row.binds (ps := ["row", "imports"]) fun _ _ _ _ _ _ us hl => match us, hl with | [_, _], _ => rfl
  have m_is_cleanup_row := PySem.W.mg_of X G a_is_cleanup_row
  refine ⟨PySem.W.fnOf "law" "law" (defArgs s_law) (defBody s_law) (defScope s_law) .none kV_law dc_law pm_law an_law cd_law ct_law, fun s v => .of_eq rfl, fun base _ _ => ?_⟩
  have D_position : DfN l.prog w K mg base 1 "position" ["items", "wanted"] (Dn.F_position) := ⟨f_position, _, Dn.dn_position TN  F_position, m_position, F_position.kp, b_position⟩
  have D_is_integer : DfN l.prog w K mg base 1 "is_integer" ["value"] (Dn.F_is_integer) := ⟨f_is_integer, _, Dn.dn_is_integer TN  F_is_integer, m_is_integer, F_is_integer.kp, b_is_integer⟩
  have D_is_index : DfN l.prog w K mg base 2 "is_index" ["value", "many"] (Dn.F_is_index) := ⟨f_is_index, _, Dn.dn_is_index TN D_is_integer F_is_index, m_is_index, F_is_index.kp, b_is_index⟩
  have D_is_tuple : DfN l.prog w K mg base 1 "is_tuple" ["value", "fewest", "most"] (Dn.F_is_tuple) := ⟨f_is_tuple, _, Dn.dn_is_tuple TN  F_is_tuple, m_is_tuple, F_is_tuple.kp, b_is_tuple⟩
  have M_Graph___len__ : MdN l.prog w K mg base 1 "Graph" "__len__" ["self"] (Dn.F_Graph___len__) := ⟨_, _, cl_Graph, ⟨at_Graph___len__, fn_Graph___len__, k_Graph___len__⟩, Dn.dn_Graph___len__ TN hf_names F_Graph___len__, b_Graph___len__⟩
  have D_is_sources : DfN l.prog w K mg base 3 "is_sources" ["graph", "value"] (Dn.F_is_sources) := ⟨f_is_sources, _, Dn.dn_is_sources TN M_Graph___len__ D_is_tuple hf_modules D_is_index F_is_sources, m_is_sources, F_is_sources.kp, b_is_sources⟩
  have D_reached : DfN l.prog w K mg base 1 "reached" ["roots", "links"] (Dn.F_reached) := ⟨f_reached, _, Dn.dn_reached TN  F_reached, m_reached, F_reached.kp, b_reached⟩
  have M_Instance___init__ : MkN l.prog w K mg base 1 "Instance" ["self", "module", "edition", "word", "holds", "entries"] (Dn.F_Instance___init__) := ⟨_, _, ⟨mk_Instance, at_Instance___init__, fn_Instance___init__, kp_Instance⟩, Dn.dn_Instance___init__ TN hf_module hf_edition hf_word hf_holds hf_entries F_Instance___init__, b_Instance___init__, m_Instance⟩
  have M_Instance_links : MdN l.prog w K mg base 1 "Instance" "links" ["self"] (Dn.F_Instance_links) := ⟨_, _, cl_Instance, ⟨at_Instance_links, fn_Instance_links, k_Instance_links⟩, Dn.dn_Instance_links TN hf_holds hf_entries F_Instance_links, b_Instance_links⟩
  have M_Instance_as_tuple : MdN l.prog w K mg base 1 "Instance" "as_tuple" ["self", "indexes"] (Dn.F_Instance_as_tuple) := ⟨_, _, cl_Instance, ⟨at_Instance_as_tuple, fn_Instance_as_tuple, k_Instance_as_tuple⟩, Dn.dn_Instance_as_tuple TN hf_holds hf_entries hf_word hf_edition hf_module F_Instance_as_tuple, b_Instance_as_tuple⟩
  have M_Machine___init__ : MkN l.prog w K mg base 1 "Machine" ["self", "graph", "sources"] (Dn.F_Machine___init__) := ⟨_, _, ⟨mk_Machine, at_Machine___init__, fn_Machine___init__, kp_Machine⟩, Dn.dn_Machine___init__ TN hf_graph hf_sources hf_instances hf_names hf_current hf_listeners hf_carried hf_trace F_Machine___init__, b_Machine___init__, m_Machine⟩
  have M_Machine_living : MdN l.prog w K mg base 2 "Machine" "living" ["self"] (Dn.F_Machine_living) := ⟨_, _, cl_Machine, ⟨at_Machine_living, fn_Machine_living, k_Machine_living⟩, Dn.dn_Machine_living TN hf_current hf_listeners hf_instances M_Instance_links D_reached F_Machine_living, b_Machine_living⟩
  have M_Machine_give_birth : MdN l.prog w K mg base 3 "Machine" "give_birth" ["self", "name", "edition"] (Dn.F_Machine_give_birth) := ⟨_, _, cl_Machine, ⟨at_Machine_give_birth, fn_Machine_give_birth, k_Machine_give_birth⟩, Dn.dn_Machine_give_birth TN hf_instances M_Instance___init__ hf_current hf_trace M_Machine_living hf_graph hf_most F_Machine_give_birth, b_Machine_give_birth⟩
  have M_Machine_enter : MdN l.prog w K mg base 1 "Machine" "enter" ["self", "number", "name"] (Dn.F_Machine_enter) := ⟨_, _, cl_Machine, ⟨at_Machine_enter, fn_Machine_enter, k_Machine_enter⟩, Dn.dn_Machine_enter TN hf_current hf_instances hf_entries hf_graph hf_most F_Machine_enter, b_Machine_enter⟩
  have M_Machine_fill : MdN l.prog w K mg base 1 "Machine" "fill" ["self", "number", "word"] (Dn.F_Machine_fill) := ⟨_, _, cl_Machine, ⟨at_Machine_fill, fn_Machine_fill, k_Machine_fill⟩, Dn.dn_Machine_fill TN hf_instances hf_carried hf_module hf_word F_Machine_fill, b_Machine_fill⟩
  have M_Machine_listen : MdN l.prog w K mg base 1 "Machine" "listen" ["self", "number", "row"] (Dn.F_Machine_listen) := ⟨_, _, cl_Machine, ⟨at_Machine_listen, fn_Machine_listen, k_Machine_listen⟩, Dn.dn_Machine_listen TN hf_listeners hf_graph hf_most F_Machine_listen, b_Machine_listen⟩
  have M_Machine_do_rows : MdN l.prog w K mg base 2 "Machine" "do_rows" ["self", "number", "rows"] (Dn.F_Machine_do_rows) := ⟨_, _, cl_Machine, ⟨at_Machine_do_rows, fn_Machine_do_rows, k_Machine_do_rows⟩, Dn.dn_Machine_do_rows TN hf_current hf_instances hf_holds M_Machine_enter M_Machine_fill M_Machine_listen F_Machine_do_rows, b_Machine_do_rows⟩
  have M_Graph_editions : MdN l.prog w K mg base 1 "Graph" "editions" ["self", "name"] (Dn.F_Graph_editions) := ⟨_, _, cl_Graph, ⟨at_Graph_editions, fn_Graph_editions, k_Graph_editions⟩, Dn.dn_Graph_editions TN hf_modules F_Graph_editions, b_Graph_editions⟩
  have M_Machine_run : MdN l.prog w K mg base 4 "Machine" "run" ["self", "name"] Fbad := ⟨_, _, cl_Machine, ⟨at_Machine_run, fn_Machine_run, k_Machine_run⟩, bad_ok, b_Machine_run⟩
  have M_Machine_run_if_none : MdN l.prog w K mg base 5 "Machine" "run_if_none" ["self", "name"] (Dn.F_Machine_run_if_none Fbad) := ⟨_, _, cl_Machine, ⟨at_Machine_run_if_none, fn_Machine_run_if_none, k_Machine_run_if_none⟩, Dn.dn_Machine_run_if_none (j := 4) TN (by decide) hf_current M_Machine_run F_Machine_run_if_none, b_Machine_run_if_none⟩
  have M_Machine_run : MdN l.prog w K mg base 6 "Machine" "run" ["self", "name"] (Dn.F_Machine_run (Dn.F_Machine_run_if_none Fbad)) := ⟨_, _, cl_Machine, ⟨at_Machine_run, fn_Machine_run, k_Machine_run⟩, Dn.dn_Machine_run (j := 5) TN (by decide) hf_sources hf_graph hf_names D_position M_Graph_editions M_Machine_give_birth M_Machine_run_if_none M_Machine_do_rows F_Machine_run, b_Machine_run⟩
  have M_Machine_as_state : MdN l.prog w K mg base 3 "Machine" "as_state" ["self"] (Dn.F_Machine_as_state) := ⟨_, _, cl_Machine, ⟨at_Machine_as_state, fn_Machine_as_state, k_Machine_as_state⟩, Dn.dn_Machine_as_state TN M_Machine_living hf_instances M_Instance_as_tuple hf_graph hf_names hf_current hf_listeners hf_sources F_Machine_as_state, b_Machine_as_state⟩
  have D_start : DfN l.prog w K mg base 7 "start" ["graph", "sources"] (Dn.F_start (Dn.F_Machine_run (Dn.F_Machine_run_if_none Fbad))) := ⟨f_start, _, Dn.dn_start (j := 6) TN (by decide) D_is_sources M_Machine___init__ hf_top M_Machine_run M_Machine_as_state F_start, m_start, F_start.kp, b_start⟩
  have M_Graph_all_sources : MdN l.prog w K mg base 1 "Graph" "all_sources" ["self"] (Dn.F_Graph_all_sources) := ⟨_, _, cl_Graph, ⟨at_Graph_all_sources, fn_Graph_all_sources, k_Graph_all_sources⟩, Dn.dn_Graph_all_sources TN hf_modules F_Graph_all_sources, b_Graph_all_sources⟩
  have g_TooMany := PySem.W.mg_of X G a_TooMany
  have M_Graph_check_starts : MdN l.prog w K mg base 8 "Graph" "check_starts" ["self"] (Fcs1) := ⟨_, _, cl_Graph, ⟨at_Graph_check_starts, fn_Graph_check_starts, k_Graph_check_starts⟩, Dn.dn_Graph_check_starts (j := 7) TN (by decide) M_Graph_all_sources g_TooMany D_start F_Graph_check_starts, b_Graph_check_starts⟩
  clear D_is_integer D_is_index D_is_tuple
  have hb := PySem.W.mg_none_of X G z_enumerate
  have D_is_integer : Df l.prog w K mg base 1 "is_integer" ["value"] (spIsInt) := ⟨f_is_integer, _, ok_is_integer T F_is_integer, m_is_integer, F_is_integer.kp, b_is_integer⟩
  have D_is_index : Df l.prog w K mg base 2 "is_index" ["value", "many"] (spIsIx) := ⟨f_is_index, _, ok_is_index T D_is_integer F_is_index, m_is_index, F_is_index.kp, b_is_index⟩
  have D_is_tuple : Df l.prog w K mg base 1 "is_tuple" ["value", "fewest", "most"] (spIsT) := ⟨f_is_tuple, _, ok_is_tuple T F_is_tuple, m_is_tuple, F_is_tuple.kp, b_is_tuple⟩
  have D_is_name : Df l.prog w K mg base 1 "is_name" ["value"] (spIsN) := ⟨f_is_name, _, ok_is_name T (PySem.W.mg_of X G a_LETTERS) F_is_name, m_is_name, F_is_name.kp, b_is_name⟩
  have D_wrong_names : Df l.prog w K mg base 2 "wrong_names" ["value", "fewest", "most"] (spWN) := ⟨f_wrong_names, _, ok_wrong_names T hb D_is_tuple D_is_name F_wrong_names, m_wrong_names, F_wrong_names.kp, b_wrong_names⟩
  have D_is_accepts_item : Df l.prog w K mg base 1 "is_accepts_item" ["item", "imports", "events"] (spNo) := ⟨f_is_accepts_item, _, no_ok, m_is_accepts_item, F_is_accepts_item.kp, b_is_accepts_item⟩
  have D_is_cell_row : Df l.prog w K mg base 1 "is_cell_row" ["row", "words"] (spNo) := ⟨f_is_cell_row, _, no_ok, m_is_cell_row, F_is_cell_row.kp, b_is_cell_row⟩
  have D_is_linking_row : Df l.prog w K mg base 1 "is_linking_row" ["row", "imports", "events"] (spNo) := ⟨f_is_linking_row, _, no_ok, m_is_linking_row, F_is_linking_row.kp, b_is_linking_row⟩
  have D_is_cleanup_row : Df l.prog w K mg base 1 "is_cleanup_row" ["row", "imports"] (spNo) := ⟨f_is_cleanup_row, _, no_ok, m_is_cleanup_row, F_is_cleanup_row.kp, b_is_cleanup_row⟩
  have D_wrong_imports : Df l.prog w K mg base 1 "wrong_imports" ["imports", "others"] (spEmp 1) := ⟨f_wrong_imports, _, ok_wrong_imports T hb F_wrong_imports, m_wrong_imports, F_wrong_imports.kp, b_wrong_imports⟩
  have D_wrong_accepts : Df l.prog w K mg base 10 "wrong_accepts" ["accepts", "imports", "events"] (spEmp 2) := ⟨f_wrong_accepts, _, ok_wrong_accepts T hb (by decide) D_is_accepts_item F_wrong_accepts, m_wrong_accepts, F_wrong_accepts.kp, b_wrong_accepts⟩
  have D_wrong_body : Df l.prog w K mg base 10 "wrong_body" ["body", "imports", "words", "events"] (spEmp 3) := ⟨f_wrong_body, _, ok_wrong_body T hb (by decide) (by decide) D_is_cell_row D_is_linking_row F_wrong_body, m_wrong_body, F_wrong_body.kp, b_wrong_body⟩
  have D_wrong_cleanup : Df l.prog w K mg base 10 "wrong_cleanup" ["cleanup", "imports"] (spEmp 1) := ⟨f_wrong_cleanup, _, ok_wrong_cleanup T hb (by decide) D_is_cleanup_row F_wrong_cleanup, m_wrong_cleanup, F_wrong_cleanup.kp, b_wrong_cleanup⟩
  have D_is_module : Df l.prog w K mg base 2 "is_module" ["item", "earlier"] (spIsMod) := ⟨f_is_module, _, ok_is_module T D_is_tuple D_is_name F_is_module, m_is_module, F_is_module.kp, b_is_module⟩
  have D_wrong_edition : Df l.prog w K mg base 11 "wrong_edition" ["edition", "others", "words", "events"] (spWE) := ⟨f_wrong_edition, _, ok_wrong_edition T D_is_tuple D_wrong_imports D_wrong_body D_wrong_accepts D_wrong_cleanup F_wrong_edition, m_wrong_edition, F_wrong_edition.kp, b_wrong_edition⟩
  have D_wrong_modules : Df l.prog w K mg base 12 "wrong_modules" ["value", "words", "events"] (spWM) := ⟨f_wrong_modules, _, ok_wrong_modules T hb D_is_tuple D_is_module D_wrong_edition F_wrong_modules, m_wrong_modules, F_wrong_modules.kp, b_wrong_modules⟩
  have X_InvalidGraph : XD l.prog w K mg base 1 "InvalidGraph" C_InvalidGraph S ["self", "part", "path"] (spX C_InvalidGraph ["part", "path"] [1, 3]) := ⟨f_InvalidGraph_i, _, xc_InvalidGraph, xc_InvalidGraph.oex, ic_InvalidGraph, t_InvalidGraph_i, ok_InvalidGraph T xc_InvalidGraph sup n_InvalidGraph_part n_InvalidGraph_path F_InvalidGraph_i, b_InvalidGraph_i, m_InvalidGraph⟩
  have D_check_parts : DfX l.prog w K mg base 13 "check_parts" ["words", "events", "modules", "top", "most"] (spCP C_InvalidGraph) := ⟨f_check_parts, _, ok_check_parts T X_InvalidGraph D_wrong_names D_wrong_modules D_is_index F_check_parts, m_check_parts, F_check_parts.kp, b_check_parts⟩
  have na_Graph : ∀ f ∈ (["words", "events", "modules", "top", "most", "names"] : List Str), NoAttr K (He.ga K "Graph") f := fun f hf => by
    rcases List.mem_cons.mp hf with rfl | hf
    · exact n_Graph_words
    rcases List.mem_cons.mp hf with rfl | hf
    · exact n_Graph_events
    rcases List.mem_cons.mp hf with rfl | hf
    · exact n_Graph_modules
    rcases List.mem_cons.mp hf with rfl | hf
    · exact n_Graph_top
    rcases List.mem_cons.mp hf with rfl | hf
    · exact n_Graph_most
    rcases List.mem_cons.mp hf with rfl | hf
    · exact n_Graph_names
    exact absurd hf List.not_mem_nil
  obtain ⟨dsG, rG, bG⟩ := FunD.binds0 (ps := ["self", "words", "events", "modules", "top", "most"]) F_Graph___init__ 5 (by simp) rfl fun D doc pm an cdv ct us ks h1 h2 => match us, ks, h1, h2 with | [_, _, _, _, _], [_], _, _ => ⟨_, _, _, _, _, _, rfl, rfl, rfl⟩
  have GI := ok_Graph_init (P := l.prog) (w := w) (base := base) (mg := mg) T cl_Graph na_Graph D_check_parts M_Graph_check_starts.M (ok_cs (M_Graph_check_starts.G.mono (k := 12) (by decide))) M_Graph_check_starts.b F_Graph___init__
  have GD : GraphC l.prog w K mg base 18 (He.ga K "Graph") C_InvalidGraph (fun us _ => us ++ dsG) := ⟨f_Graph___init__, _, ⟨mk_Graph, at_Graph___init__, fn_Graph___init__, kp_Graph⟩, GI, kbn_of rG bG, m_Graph, cl_Graph, n_Graph_words, n_Graph_events⟩
  have Ds0 : Df l.prog w K mg base 0 "_law_same" ["_law_a", "_law_b"] (spS 0) := ⟨f__law_same, _, ok_same0, m__law_same, F__law_same.kp, b__law_same⟩
  have Ds1 : Df l.prog w K mg base 1 "_law_same" ["_law_a", "_law_b"] (spS 1) := ⟨f__law_same, _, ok_same1 T F__law_same Ds0, m__law_same, F__law_same.kp, b__law_same⟩
  have Ds2 : Df l.prog w K mg base 2 "_law_same" ["_law_a", "_law_b"] (spS 2) := ⟨f__law_same, _, ok_same1 T F__law_same Ds1, m__law_same, F__law_same.kp, b__law_same⟩
  have Ds3 : Df l.prog w K mg base 3 "_law_same" ["_law_a", "_law_b"] (spS 3) := ⟨f__law_same, _, ok_same1 T F__law_same Ds2, m__law_same, F__law_same.kp, b__law_same⟩
  have Ds4 : Df l.prog w K mg base 4 "_law_same" ["_law_a", "_law_b"] (spS 4) := ⟨f__law_same, _, ok_same1 T F__law_same Ds3, m__law_same, F__law_same.kp, b__law_same⟩
  have D__law_pool : Df l.prog w K mg base 1 "_law_pool" ["_law_script"] (spPool K) := ⟨f__law_pool, _, ok_pool T F__law_pool, m__law_pool, F__law_pool.kp, b__law_pool⟩
  have D__law_draw : Df l.prog w K mg base 1 "_law_draw" ["_law_pool_here", "_law_many"] (spDraw) := ⟨f__law_draw, _, ok_draw T F__law_draw, m__law_draw, F__law_draw.kp, b__law_draw⟩
  have D__law_pick : Df l.prog w K mg base 2 "_law_pick" ["_law_pool_here", "_law_items"] (spPick K) := ⟨f__law_pick, _, ok_pick T D__law_draw F__law_pick, m__law_pick, F__law_pick.kp, b__law_pick⟩
  have D__law_name : Df l.prog w K mg base 2 "_law_name" ["_law_pool_here", "_law_taken"] (spName K) := ⟨f__law_name, _, ok_name T D__law_draw F__law_name, m__law_name, F__law_name.kp, b__law_name⟩
  have D__law_names : Df l.prog w K mg base 3 "_law_names" ["_law_pool_here", "_law_count"] (spNames) := ⟨f__law_names, _, ok_names T D__law_name F__law_names, m__law_names, F__law_names.kp, b__law_names⟩
  have D__law_sign : Df l.prog w K mg base 2 "_law_sign" ["_law_pool_here"] (spSign) := ⟨f__law_sign, _, ok_sign T D__law_draw F__law_sign, m__law_sign, F__law_sign.kp, b__law_sign⟩
  have D__law_bad : Df l.prog w K mg base 3 "_law_bad" ["_law_pool_here"] (spBad) := ⟨f__law_bad, _, ok_bad T D__law_draw D__law_pick D__law_name D__law_sign F__law_bad, m__law_bad, F__law_bad.kp, b__law_bad⟩
  have D__law_value : Df l.prog w K mg base 4 "_law_value" ["_law_pool_here", "_law_most_names"] (spValue) := ⟨f__law_value, _, ok_value T D__law_draw D__law_pick D__law_names D__law_bad F__law_value, m__law_value, F__law_value.kp, b__law_value⟩
  have D__law_is_name : Df l.prog w K mg base 1 "_law_is_name" ["_law_value_here"] (spIsN) := ⟨f__law_is_name, _, ok_law_is_name T F__law_is_name, m__law_is_name, F__law_is_name.kp, b__law_is_name⟩
  have D__law_due : Df l.prog w K mg base 2 "_law_due" ["_law_value_here", "_law_least", "_law_greatest"] (spWN) := ⟨f__law_due, _, ok_due T D__law_is_name F__law_due, m__law_due, F__law_due.kp, b__law_due⟩
  have D__law_asked : Df l.prog w K mg base 20 "_law_asked" ["_law_words", "_law_events"] (spAsk) := ⟨f__law_asked, _, ok_asked T GD xc_InvalidGraph m_InvalidGraph n_InvalidGraph_part n_InvalidGraph_path F__law_asked, m__law_asked, F__law_asked.kp, b__law_asked⟩
  exact ok_law T D__law_pool D__law_value D__law_due D__law_asked Ds4 F_law

theorem walk {l : PySem.W.OpenLaw} {q : Program} {loose : List Str} {XP : (Str → Option Value) → Heap → Prop} {YP : World → Heap → Prop} {d : DefRec} {K : Params → PySem.W.Frag} (hn : l.most = some 63) (hdf : d.params.defaults = [])
    (hY : ∀ (w : World) (h : Heap), YP w h → (K w.params).In h)
    (F : ∀ (w : World) (mg : Str → Option Value) (fa : Addr) (h : Heap), (K w.params).In h → h.Ns mainGlobals mg → mg d.name = some (.ref fa) →
      ∃ fd : FuncData, (∀ (s : Shared) (u : Value), BindsTo s fd ⟨[u], []⟩ [("_law_script", u)]) ∧ ∀ base : Heap, (K w.params).In base → base.Ns mainGlobals mg → FnOk l.prog w (K w.params) mg base CX0 21 fa fd ["_law_script"] (spLaw (K w.params))) :
    PySem.W.WalkO q loose XP YP l.row.toRowW d [] (fun f vs => PySem.call f vs) :=
  L2.walk_of (n := 63) (k := 21) (x := "_law_script") (CX := fun _ => CX0) (sp := fun w => spLaw (K w.params)) hn (by decide) hdf ⟨rfl, by decide, by decide⟩ hY F (fun _ _ a ns hl _ hS => ⟨a, ns, rfl, hS, hl, fun _ => rfl⟩) fun _ _ _ _ _ z => z
end My

open PySem PySem.W PyProof.Rows in
set_option maxRecDepth 100000 in
set_option maxHeartbeats 0 in
theorem PySem.Challenge.cw_swappedhot_k03_wrong_names_holds : PySem.Challenge.rw_swappedhot_k03_wrong_names.Holds := by
  w_on; o_law; k_head; (case hw => w_witness2)
  k_fill
  refine My.walk (l := PySem.Challenge.rw_swappedhot_k03_wrong_names) rfl rfl (fun w h Y => PySem.W.kIn_of Y) ?F
  case F =>
    intro w mg fa h KX G hmg
    refine' My.all_mk KX G hmg ?a_is_integer ?l_is_integer ?c_is_integer ?k_is_integer ?a_is_index ?l_is_index ?c_is_index ?k_is_index ?a_is_name ?l_is_name ?c_is_name ?k_is_name ?a_is_tuple ?l_is_tuple ?c_is_tuple ?k_is_tuple ?a_wrong_names ?l_wrong_names ?c_wrong_names ?k_wrong_names ?a_wrong_imports ?l_wrong_imports ?c_wrong_imports ?k_wrong_imports ?a_wrong_accepts ?l_wrong_accepts ?c_wrong_accepts ?k_wrong_accepts ?a_wrong_body ?l_wrong_body ?c_wrong_body ?k_wrong_body ?a_wrong_cleanup ?l_wrong_cleanup ?c_wrong_cleanup ?k_wrong_cleanup ?a_is_module ?l_is_module ?c_is_module ?k_is_module ?a_wrong_edition ?l_wrong_edition ?c_wrong_edition ?k_wrong_edition ?a_wrong_modules ?l_wrong_modules ?c_wrong_modules ?k_wrong_modules ?a_check_parts ?l_check_parts ?c_check_parts ?k_check_parts ?a__law_pool ?l__law_pool ?c__law_pool ?k__law_pool ?a__law_draw ?l__law_draw ?c__law_draw ?k__law_draw ?a__law_pick ?l__law_pick ?c__law_pick ?k__law_pick ?a__law_name ?l__law_name ?c__law_name ?k__law_name ?a__law_names ?l__law_names ?c__law_names ?k__law_names ?a__law_same ?l__law_same ?c__law_same ?k__law_same ?a__law_sign ?l__law_sign ?c__law_sign ?k__law_sign ?a__law_bad ?l__law_bad ?c__law_bad ?k__law_bad ?a__law_value ?l__law_value ?c__law_value ?k__law_value ?a__law_is_name ?l__law_is_name ?c__law_is_name ?k__law_is_name ?a__law_due ?l__law_due ?c__law_due ?k__law_due ?a__law_asked ?l__law_asked ?c__law_asked ?k__law_asked ?a_law ?l_law ?c_law ?k_law ?a_is_sources ?l_is_sources ?c_is_sources ?k_is_sources ?a_reached ?l_reached ?c_reached ?k_reached ?a_start ?l_start ?c_start ?k_start ?a_position ?l_position ?c_position ?k_position ?a_S ?rd_S ?ga_S ?vv_S ?ic_S ?ty_S ?ob_n ?ob_t ?a_InvalidGraph ?x_InvalidGraph ?sa_InvalidGraph ?ga_InvalidGraph ?gg_InvalidGraph ?ca_InvalidGraph ?kc_InvalidGraph ?n_InvalidGraph_part ?n_InvalidGraph_path ?ic_InvalidGraph ?l_InvalidGraph_i ?c_InvalidGraph_i ?k_InvalidGraph_i ?t_InvalidGraph_i ?a_Instance ?cg_Instance ?cd_Instance ?cp_Instance ?cs_Instance ?n_Instance_module ?n_Instance_edition ?n_Instance_word ?n_Instance_holds ?n_Instance_entries ?mk_Instance ?kp_Instance ?at_Instance___init__ ?fn_Instance___init__ ?l_Instance___init__ ?c_Instance___init__ ?k_Instance___init__ ?at_Instance_links ?fn_Instance_links ?l_Instance_links ?c_Instance_links ?k_Instance_links ?at_Instance_as_tuple ?fn_Instance_as_tuple ?l_Instance_as_tuple ?c_Instance_as_tuple ?k_Instance_as_tuple ?a_Machine ?cg_Machine ?cd_Machine ?cp_Machine ?cs_Machine ?n_Machine_graph ?n_Machine_sources ?n_Machine_instances ?n_Machine_current ?n_Machine_listeners ?n_Machine_carried ?n_Machine_trace ?mk_Machine ?kp_Machine ?at_Machine___init__ ?fn_Machine___init__ ?l_Machine___init__ ?c_Machine___init__ ?k_Machine___init__ ?at_Machine_run ?fn_Machine_run ?l_Machine_run ?c_Machine_run ?k_Machine_run ?at_Machine_run_if_none ?fn_Machine_run_if_none ?l_Machine_run_if_none ?c_Machine_run_if_none ?k_Machine_run_if_none ?at_Machine_give_birth ?fn_Machine_give_birth ?l_Machine_give_birth ?c_Machine_give_birth ?k_Machine_give_birth ?at_Machine_living ?fn_Machine_living ?l_Machine_living ?c_Machine_living ?k_Machine_living ?at_Machine_do_rows ?fn_Machine_do_rows ?l_Machine_do_rows ?c_Machine_do_rows ?k_Machine_do_rows ?at_Machine_enter ?fn_Machine_enter ?l_Machine_enter ?c_Machine_enter ?k_Machine_enter ?at_Machine_fill ?fn_Machine_fill ?l_Machine_fill ?c_Machine_fill ?k_Machine_fill ?at_Machine_listen ?fn_Machine_listen ?l_Machine_listen ?c_Machine_listen ?k_Machine_listen ?at_Machine_as_state ?fn_Machine_as_state ?l_Machine_as_state ?c_Machine_as_state ?k_Machine_as_state ?a_Graph ?cg_Graph ?cd_Graph ?cp_Graph ?cs_Graph ?n_Graph_words ?n_Graph_events ?n_Graph_modules ?n_Graph_top ?n_Graph_most ?n_Graph_names ?mk_Graph ?kp_Graph ?at_Graph___init__ ?fn_Graph___init__ ?l_Graph___init__ ?c_Graph___init__ ?k_Graph___init__ ?nk_Graph___init__ ?at_Graph_editions ?fn_Graph_editions ?l_Graph_editions ?c_Graph_editions ?k_Graph_editions ?at_Graph_all_sources ?fn_Graph_all_sources ?l_Graph_all_sources ?c_Graph_all_sources ?k_Graph_all_sources ?at_Graph___len__ ?fn_Graph___len__ ?l_Graph___len__ ?c_Graph___len__ ?k_Graph___len__ ?at_Graph_check_starts ?fn_Graph_check_starts ?l_Graph_check_starts ?c_Graph_check_starts ?k_Graph_check_starts ?z_ValueError ?z_abs ?z_all ?z_any ?z_bool ?z_dict ?z_enumerate ?z_int ?z_isinstance ?z_len ?z_list ?z_max ?z_min ?z_range ?z_sorted ?z_str ?z_sum ?z_tuple ?z_zip ?a_is_accepts_item ?l_is_accepts_item ?c_is_accepts_item ?k_is_accepts_item ?a_is_cell_row ?l_is_cell_row ?c_is_cell_row ?k_is_cell_row ?a_is_linking_row ?l_is_linking_row ?c_is_linking_row ?k_is_linking_row ?a_is_cleanup_row ?l_is_cleanup_row ?c_is_cleanup_row ?k_is_cleanup_row ?a_LETTERS ?a_TooMany
    (case a_is_integer => k_is)
    (case l_is_integer => k_is)
    (case c_is_integer => k_is)
    (case k_is_integer => k_is)
    (case a_is_index => k_is)
    (case l_is_index => k_is)
    (case c_is_index => k_is)
    (case k_is_index => k_is)
    (case a_is_name => k_is)
    (case l_is_name => k_is)
    (case c_is_name => k_is)
    (case k_is_name => k_is)
    (case a_is_tuple => k_is)
    (case l_is_tuple => k_is)
    (case c_is_tuple => k_is)
    (case k_is_tuple => k_is)
    (case a_wrong_names => k_is)
    (case l_wrong_names => k_is)
    (case c_wrong_names => k_is)
    (case k_wrong_names => k_is)
    (case a_wrong_imports => k_is)
    (case l_wrong_imports => k_is)
    (case c_wrong_imports => k_is)
    (case k_wrong_imports => k_is)
    (case a_wrong_accepts => k_is)
    (case l_wrong_accepts => k_is)
    (case c_wrong_accepts => k_is)
    (case k_wrong_accepts => k_is)
    (case a_wrong_body => k_is)
    (case l_wrong_body => k_is)
    (case c_wrong_body => k_is)
    (case k_wrong_body => k_is)
    (case a_wrong_cleanup => k_is)
    (case l_wrong_cleanup => k_is)
    (case c_wrong_cleanup => k_is)
    (case k_wrong_cleanup => k_is)
    (case a_is_module => k_is)
    (case l_is_module => k_is)
    (case c_is_module => k_is)
    (case k_is_module => k_is)
    (case a_wrong_edition => k_is)
    (case l_wrong_edition => k_is)
    (case c_wrong_edition => k_is)
    (case k_wrong_edition => k_is)
    (case a_wrong_modules => k_is)
    (case l_wrong_modules => k_is)
    (case c_wrong_modules => k_is)
    (case k_wrong_modules => k_is)
    (case a_check_parts => k_is)
    (case l_check_parts => k_is)
    (case c_check_parts => k_is)
    (case k_check_parts => k_is)
    (case a__law_pool => k_is)
    (case l__law_pool => k_is)
    (case c__law_pool => k_is)
    (case k__law_pool => k_is)
    (case a__law_draw => k_is)
    (case l__law_draw => k_is)
    (case c__law_draw => k_is)
    (case k__law_draw => k_is)
    (case a__law_pick => k_is)
    (case l__law_pick => k_is)
    (case c__law_pick => k_is)
    (case k__law_pick => k_is)
    (case a__law_name => k_is)
    (case l__law_name => k_is)
    (case c__law_name => k_is)
    (case k__law_name => k_is)
    (case a__law_names => k_is)
    (case l__law_names => k_is)
    (case c__law_names => k_is)
    (case k__law_names => k_is)
    (case a__law_same => k_is)
    (case l__law_same => k_is)
    (case c__law_same => k_is)
    (case k__law_same => k_is)
    (case a__law_sign => k_is)
    (case l__law_sign => k_is)
    (case c__law_sign => k_is)
    (case k__law_sign => k_is)
    (case a__law_bad => k_is)
    (case l__law_bad => k_is)
    (case c__law_bad => k_is)
    (case k__law_bad => k_is)
    (case a__law_value => k_is)
    (case l__law_value => k_is)
    (case c__law_value => k_is)
    (case k__law_value => k_is)
    (case a__law_is_name => k_is)
    (case l__law_is_name => k_is)
    (case c__law_is_name => k_is)
    (case k__law_is_name => k_is)
    (case a__law_due => k_is)
    (case l__law_due => k_is)
    (case c__law_due => k_is)
    (case k__law_due => k_is)
    (case a__law_asked => k_is)
    (case l__law_asked => k_is)
    (case c__law_asked => k_is)
    (case k__law_asked => k_is)
    (case a_law => k_is)
    (case l_law => k_is)
    (case c_law => k_is)
    (case k_law => k_is)
    (case a_is_sources => k_is)
    (case l_is_sources => k_is)
    (case c_is_sources => k_is)
    (case k_is_sources => k_is)
    (case a_reached => k_is)
    (case l_reached => k_is)
    (case c_reached => k_is)
    (case k_reached => k_is)
    (case a_start => k_is)
    (case l_start => k_is)
    (case c_start => k_is)
    (case k_start => k_is)
    (case a_position => k_is)
    (case l_position => k_is)
    (case c_position => k_is)
    (case k_position => k_is)
    (case a_S => k_is)
    (case rd_S => k_is)
    (case ga_S => k_is)
    (case vv_S => k_is)
    (case ic_S => k_is)
    (case ty_S => k_is)
    (case ob_n => k_is)
    (case ob_t => k_is)
    (case a_InvalidGraph => k_is)
    (case x_InvalidGraph => k_is)
    (case sa_InvalidGraph => k_is)
    (case ga_InvalidGraph => k_is)
    (case gg_InvalidGraph => k_is)
    (case ca_InvalidGraph => k_is)
    (case kc_InvalidGraph => k_is)
    (case n_InvalidGraph_part => k_is)
    (case n_InvalidGraph_path => k_is)
    (case ic_InvalidGraph => k_is)
    (case l_InvalidGraph_i => k_is)
    (case c_InvalidGraph_i => k_is)
    (case k_InvalidGraph_i => k_is)
    (case t_InvalidGraph_i => k_is)
    (case a_Instance => k_is)
    (case cg_Instance => k_is)
    (case cd_Instance => k_is)
    (case cp_Instance => k_is)
    (case cs_Instance => k_is)
    (case n_Instance_module => k_is)
    (case n_Instance_edition => k_is)
    (case n_Instance_word => k_is)
    (case n_Instance_holds => k_is)
    (case n_Instance_entries => k_is)
    (case mk_Instance => k_is)
    (case kp_Instance => k_is)
    (case at_Instance___init__ => k_is)
    (case fn_Instance___init__ => k_is)
    (case l_Instance___init__ => k_is)
    (case c_Instance___init__ => k_is)
    (case k_Instance___init__ => k_is)
    (case at_Instance_links => k_is)
    (case fn_Instance_links => k_is)
    (case l_Instance_links => k_is)
    (case c_Instance_links => k_is)
    (case k_Instance_links => k_is)
    (case at_Instance_as_tuple => k_is)
    (case fn_Instance_as_tuple => k_is)
    (case l_Instance_as_tuple => k_is)
    (case c_Instance_as_tuple => k_is)
    (case k_Instance_as_tuple => k_is)
    (case a_Machine => k_is)
    (case cg_Machine => k_is)
    (case cd_Machine => k_is)
    (case cp_Machine => k_is)
    (case cs_Machine => k_is)
    (case n_Machine_graph => k_is)
    (case n_Machine_sources => k_is)
    (case n_Machine_instances => k_is)
    (case n_Machine_current => k_is)
    (case n_Machine_listeners => k_is)
    (case n_Machine_carried => k_is)
    (case n_Machine_trace => k_is)
    (case mk_Machine => k_is)
    (case kp_Machine => k_is)
    (case at_Machine___init__ => k_is)
    (case fn_Machine___init__ => k_is)
    (case l_Machine___init__ => k_is)
    (case c_Machine___init__ => k_is)
    (case k_Machine___init__ => k_is)
    (case at_Machine_run => k_is)
    (case fn_Machine_run => k_is)
    (case l_Machine_run => k_is)
    (case c_Machine_run => k_is)
    (case k_Machine_run => k_is)
    (case at_Machine_run_if_none => k_is)
    (case fn_Machine_run_if_none => k_is)
    (case l_Machine_run_if_none => k_is)
    (case c_Machine_run_if_none => k_is)
    (case k_Machine_run_if_none => k_is)
    (case at_Machine_give_birth => k_is)
    (case fn_Machine_give_birth => k_is)
    (case l_Machine_give_birth => k_is)
    (case c_Machine_give_birth => k_is)
    (case k_Machine_give_birth => k_is)
    (case at_Machine_living => k_is)
    (case fn_Machine_living => k_is)
    (case l_Machine_living => k_is)
    (case c_Machine_living => k_is)
    (case k_Machine_living => k_is)
    (case at_Machine_do_rows => k_is)
    (case fn_Machine_do_rows => k_is)
    (case l_Machine_do_rows => k_is)
    (case c_Machine_do_rows => k_is)
    (case k_Machine_do_rows => k_is)
    (case at_Machine_enter => k_is)
    (case fn_Machine_enter => k_is)
    (case l_Machine_enter => k_is)
    (case c_Machine_enter => k_is)
    (case k_Machine_enter => k_is)
    (case at_Machine_fill => k_is)
    (case fn_Machine_fill => k_is)
    (case l_Machine_fill => k_is)
    (case c_Machine_fill => k_is)
    (case k_Machine_fill => k_is)
    (case at_Machine_listen => k_is)
    (case fn_Machine_listen => k_is)
    (case l_Machine_listen => k_is)
    (case c_Machine_listen => k_is)
    (case k_Machine_listen => k_is)
    (case at_Machine_as_state => k_is)
    (case fn_Machine_as_state => k_is)
    (case l_Machine_as_state => k_is)
    (case c_Machine_as_state => k_is)
    (case k_Machine_as_state => k_is)
    (case a_Graph => k_is)
    (case cg_Graph => k_is)
    (case cd_Graph => k_is)
    (case cp_Graph => k_is)
    (case cs_Graph => k_is)
    (case n_Graph_words => k_is)
    (case n_Graph_events => k_is)
    (case n_Graph_modules => k_is)
    (case n_Graph_top => k_is)
    (case n_Graph_most => k_is)
    (case n_Graph_names => k_is)
    (case mk_Graph => k_is)
    (case kp_Graph => k_is)
    (case at_Graph___init__ => k_is)
    (case fn_Graph___init__ => k_is)
    (case l_Graph___init__ => k_is)
    (case c_Graph___init__ => k_is)
    (case k_Graph___init__ => k_is)
    (case nk_Graph___init__ => k_is)
    (case at_Graph_editions => k_is)
    (case fn_Graph_editions => k_is)
    (case l_Graph_editions => k_is)
    (case c_Graph_editions => k_is)
    (case k_Graph_editions => k_is)
    (case at_Graph_all_sources => k_is)
    (case fn_Graph_all_sources => k_is)
    (case l_Graph_all_sources => k_is)
    (case c_Graph_all_sources => k_is)
    (case k_Graph_all_sources => k_is)
    (case at_Graph___len__ => k_is)
    (case fn_Graph___len__ => k_is)
    (case l_Graph___len__ => k_is)
    (case c_Graph___len__ => k_is)
    (case k_Graph___len__ => k_is)
    (case at_Graph_check_starts => k_is)
    (case fn_Graph_check_starts => k_is)
    (case l_Graph_check_starts => k_is)
    (case c_Graph_check_starts => k_is)
    (case k_Graph_check_starts => k_is)
    (case z_ValueError => k_is)
    (case z_abs => k_is)
    (case z_all => k_is)
    (case z_any => k_is)
    (case z_bool => k_is)
    (case z_dict => k_is)
    (case z_enumerate => k_is)
    (case z_int => k_is)
    (case z_isinstance => k_is)
    (case z_len => k_is)
    (case z_list => k_is)
    (case z_max => k_is)
    (case z_min => k_is)
    (case z_range => k_is)
    (case z_sorted => k_is)
    (case z_str => k_is)
    (case z_sum => k_is)
    (case z_tuple => k_is)
    (case z_zip => k_is)
    (case a_is_accepts_item => k_is)
    (case l_is_accepts_item => k_is)
    (case c_is_accepts_item => k_is)
    (case k_is_accepts_item => k_is)
    (case a_is_cell_row => k_is)
    (case l_is_cell_row => k_is)
    (case c_is_cell_row => k_is)
    (case k_is_cell_row => k_is)
    (case a_is_linking_row => k_is)
    (case l_is_linking_row => k_is)
    (case c_is_linking_row => k_is)
    (case k_is_linking_row => k_is)
    (case a_is_cleanup_row => k_is)
    (case l_is_cleanup_row => k_is)
    (case c_is_cleanup_row => k_is)
    (case k_is_cleanup_row => k_is)
    (case a_LETTERS => k_is)
    (case a_TooMany => k_is)
