import PyProof.Rows.All
import Wide.All
import OpenK.AllK
import Wide.FinOn
import PyProof.EqAt
import PyProof.EqKinds
import PyProof.TupleCall
import PyProof.FString
import PyProof.FString4
import KE.KFromBytes
import KE.KExcIs
import HandS.ForMost
import HandS.Exc
import HandS.ExcOwn
import HandS.ExcInit
import HandS.ExcValue
import HandS.ExcField
import HandS.IsInst
import HandS.FStr
import HandS.FStrTup
import HandS.ClsMeth
import HandS.Wide
import HandS.Evl
import HandS.Zip
import HandS.Walk
import HandS.ExcIs
import HandS.Deep
import HandS.WordsExc
import KE.GoesEnum
import HandS.MakeKwOnly
import PySem.Challenge.RW_swappedhot_k01_rules
set_option Elab.async false
set_option linter.all false
set_option maxRecDepth 100000
set_option maxHeartbeats 2000000
namespace Cm
open PySem PySem.Spec PyProof.Rows L2 Evl

/-- a def of the text, with its promise -/
structure Df (P : Program) (w : World) (K : PySem.W.Frag) (mg : Str → Option Value) (base : Heap) (k : Nat) (x : Str) (ps : List Str) (sp : Sp) where
  f : Addr
  fd : FuncData
  G : FnOk P w K mg base CX0 k f fd ps sp
  m : mg x = some (.ref f)
  kp : PySem.W.keepIn K (.ref f) = true
  b : Binds K fd ps []
/-- a def of the text as it stands -/
structure Bd (K : PySem.W.Frag) (mg : Str → Option Value) (x : Str) (st : Stmt) (ps : List Str) where
  f : Addr
  fd : FuncData
  F : Fun K x x st f fd
  m : mg x = some (.ref f)
  b : Binds K fd ps []
def Bd.df {P : Program} {w : World} {K : PySem.W.Frag} {mg : Str → Option Value} {base : Heap} {k : Nat} {x : Str} {st : Stmt} {ps : List Str} {sp : Sp} (B : Bd K mg x st ps) (G : FnOk P w K mg base CX0 k B.f B.fd ps sp) : Df P w K mg base k x ps sp :=
  ⟨B.f, B.fd, G, B.m, B.F.kp, B.b⟩

/-- all but the object at a is as it was -/
def SmB (a : Addr) (H H' : Hp) : Prop := ∀ b o, b ≠ a → H b = some o → H' b = some o
theorem SmB.refl (a : Addr) (H : Hp) : SmB a H H := fun _ _ _ h => h
theorem SmB.trans {a : Addr} {H H1 H2 : Hp} (x : SmB a H H1) (y : SmB a H1 H2) : SmB a H H2 := fun b o n h => y b o n (x b o n h)
theorem SmB.of {a : Addr} {H H' : Hp} (x : Ex H H') : SmB a H H' := fun b o _ h => x b o h
theorem SmB.upd {a : Addr} {H : Hp} {o : HO} : SmB a H (upd H a o) := fun b u n h => by
  rw [upd_ne n]
  exact h
theorem SmB.l {K : PySem.W.Frag} {H H' : Hp} {a p : Addr} {xs : List V} (e : SmB p H H') (n : a ≠ p) (h : SqL K H a xs) : SqL K H' a xs := by
  rcases h with (h | ⟨o, h⟩) | h
  · exact .inl (.inl (e _ _ n h))
  · exact .inl (.inr ⟨o, e _ _ n h⟩)
  · exact .inr h
theorem SmB.t {K : PySem.W.Frag} {H H' : Hp} {a p : Addr} {xs : List V} (e : SmB p H H') (n : a ≠ p) (h : SqT K H a xs) : SqT K H' a xs := by
  rcases h with (h | ⟨o, h⟩) | h
  · exact .inl (.inl (e _ _ n h))
  · exact .inl (.inr ⟨o, e _ _ n h⟩)
  · exact .inr h

/-! ### the pool of a law's script -/
structure PoolS (M : Addr → Prop) (H : Hp) (p : Addr) (g s : Addr) (gs ss : List Int) (cur cnt : Int) : Prop where
  obj : H p = some (.lst [.ref g, .ref s, .int cur, .int cnt])
  great : H g = some (.lst (gs.map V.int))
  small : H s = some (.lst (ss.map V.int))
  gpos : ∀ x ∈ gs, 0 < x
  srng : ∀ x ∈ ss, 0 ≤ x ∧ x < 1000003
  cur0 : 0 ≤ cur
  cnt0 : 0 ≤ cnt
  mg : ¬ M g
  ms : ¬ M s
def PoolAt (M : Addr → Prop) (H : Hp) (p : Addr) : Prop := ∃ g s gs ss cur cnt, PoolS M H p g s gs ss cur cnt
theorem ref_ne_ints {a : Addr} {vs : List V} {ns : List Int} : (HO.lst (.ref a :: vs)) ≠ HO.lst (ns.map V.int) := fun z => by
  cases ns with
  | nil => cases z
  | cons n r => cases z
section
variable {M N : Addr → Prop} {H H' : Hp} {p g s : Addr} {gs ss : List Int} {cur cnt : Int}
theorem PoolS.ng (P : PoolS M H p g s gs ss cur cnt) : g ≠ p := (ne_of P.obj P.great ref_ne_ints).symm
theorem PoolS.ns (P : PoolS M H p g s gs ss cur cnt) : s ≠ p := (ne_of P.obj P.small ref_ne_ints).symm
theorem PoolS.ex (P : PoolS M H p g s gs ss cur cnt) (e : Ex H H') : PoolS M H' p g s gs ss cur cnt :=
  ⟨e _ _ P.obj, e _ _ P.great, e _ _ P.small, P.gpos, P.srng, P.cur0, P.cnt0, P.mg, P.ms⟩
theorem PoolAt.ex (P : PoolAt M H p) (e : Ex H H') : PoolAt M H' p := by
  obtain ⟨g, s, gs, ss, cur, cnt, P⟩ := P
  exact ⟨g, s, gs, ss, cur, cnt, P.ex e⟩
theorem PoolAt.some (P : PoolAt M H p) : ∃ o, H p = some o := by
  obtain ⟨g, s, gs, ss, cur, cnt, P⟩ := P
  exact ⟨_, P.obj⟩
theorem PoolAt.weak (P : PoolAt M H p) (h : ∀ a, N a → M a) : PoolAt N H p := by
  obtain ⟨g, s, gs, ss, cur, cnt, P⟩ := P
  exact ⟨g, s, gs, ss, cur, cnt, P.obj, P.great, P.small, P.gpos, P.srng, P.cur0, P.cnt0, fun z => P.mg (h _ z), fun z => P.ms (h _ z)⟩
/-- what is not there is no part of the pool -/
theorem PoolAt.addM (P : PoolAt M H p) (h : ∀ a, N a → M a ∨ H a = none) : PoolAt N H p := by
  obtain ⟨g, s, gs, ss, cur, cnt, P⟩ := P
  refine ⟨g, s, gs, ss, cur, cnt, P.obj, P.great, P.small, P.gpos, P.srng, P.cur0, P.cnt0, fun z => (h _ z).elim P.mg fun q => ?_, fun z => (h _ z).elim P.ms fun q => ?_⟩
  · rw [P.great] at q
    cases q
  · rw [P.small] at q
    cases q
/-- a change at M leaves the pool -/
theorem PoolAt.upd (P : PoolAt M H p) {a : Addr} {o : HO} (ha : M a) (hp : p ≠ a) : PoolAt M (upd H a o) p := by
  obtain ⟨g, s, gs, ss, cur, cnt, P⟩ := P
  refine ⟨g, s, gs, ss, cur, cnt, by rw [upd_ne hp]; exact P.obj, ?_, ?_, P.gpos, P.srng, P.cur0, P.cnt0, P.mg, P.ms⟩
  · rw [upd_ne fun z => P.mg (by rw [z]; exact ha)]
    exact P.great
  · rw [upd_ne fun z => P.ms (by rw [z]; exact ha)]
    exact P.small
end
/-- what M names is there -/
def Live (M : Addr → Prop) (H : Hp) : Prop := ∀ a, M a → H a ≠ none
theorem Live.ex {M : Addr → Prop} {H H' : Hp} (l : Live M H) (e : Ex H H') : Live M H' := fun a z q => by
  cases h1 : H a with
  | none => exact l a z h1
  | some o =>
    rw [e _ _ h1] at q
    cases q
theorem Live.smb {M : Addr → Prop} {H H' : Hp} {p : Addr} (l : Live M H) (e : SmB p H H') (hp : H' p ≠ none) : Live M H' := fun a z q => by
  by_cases n : a = p
  · rw [n] at q
    exact hp q
  · cases h1 : H a with
    | none => exact l a z h1
    | some o =>
      rw [e _ _ n h1] at q
      cases q

def absI (x : Int) : Int := if x < 0 then -x else x
theorem given_ints (n : Nat) (f : Nat → Bool) (g : Nat → Int) : given n f (fun i => V.int (g i)) = (((List.range n).filter f).map g).map V.int := by
  unfold given
  rw [List.map_map]
  rfl
theorem given_mem {n : Nat} {f : Nat → Bool} {g : Nat → Int} {x : Int} (h : x ∈ ((List.range n).filter f).map g) : ∃ i, f i = true ∧ g i = x := by
  obtain ⟨i, hi, e⟩ := List.mem_map.mp h
  exact ⟨i, (List.mem_filter.mp hi).2, e⟩
theorem map_getD {ns : List Int} {i : Nat} {x : V} (h : (ns.map V.int)[i]? = some x) : x = .int (ns.getD i 0) := by
  rw [List.getElem?_map] at h
  cases e : ns[i]? with
  | none =>
    rw [e] at h
    cases h
  | some z =>
    rw [e] at h
    have h' := Option.some.inj h
    rw [← h']
    simp [List.getD, e]
theorem given_all (ns : List Int) : given (ns.map V.int).length (fun _ => true) (fun i => V.int (ns.getD i 0)) = ns.map V.int := by
  unfold given
  rw [List.length_map, List.filter_eq_self.mpr (fun _ _ => rfl)]
  apply List.ext_getElem?
  intro i
  by_cases h : i < ns.length
  · simp [List.getD, h]
  · simp [h, Nat.le_of_not_lt h]
theorem cut_ints (ns : List Int) (lo hi : Option Int) : ∃ cs : List Int, cutV (ns.map V.int) lo hi = cs.map V.int ∧ cs.length ≤ ns.length := by
  refine ⟨(ns.drop (HT.sIx ns.length 0 lo)).take (HT.sIx ns.length ns.length hi - HT.sIx ns.length 0 lo), ?_, ?_⟩
  · unfold cutV
    rw [List.length_map, List.map_take, List.map_drop]
  · rw [List.length_take, List.length_drop]
    omega
/-- xs[i] = e, e a new list -/
theorem s_setLL {σ : L2.St} {H : Hp} {D : Ends} {ta tb te : TE} {l : Addr} {xs ys : List V} {j : Nat} (hl : H l = some (.lst xs)) (h : EvL te σ H ys) (ho : Ev ta σ H (.ref l)) (hi : Ev tb σ H (.int (j : Int))) (hj : j < xs.length)
    (k : ∀ q H1, H q = none → Ex H H1 → H1 q = some (.lst ys) → D.nx σ (upd H1 l (.lst (xs.set j (.ref q))))) : tAsg te (gSub ta tb rSetL) D σ H := h H (Ex.refl H) _ fun q H1 hq e1 h1 => ho H1 e1 _ fun H2 e2 => hi H2 (e1.trans e2) _ fun H3 e3 =>
  ⟨l, xs, (j : Int), j, rfl, rfl, ((e1.trans e2).trans e3) l _ hl, ixN_nat hj, k q H3 hq ((e1.trans e2).trans e3) (e3 _ _ (e2 _ _ h1))⟩
theorem q_setLL {σ : L2.St} {H : Hp} {D : Ends} {tz : TS} {ta tb te : TE} {l : Addr} {xs ys : List V} {j : Nat} (hl : H l = some (.lst xs)) (h : EvL te σ H ys) (ho : Ev ta σ H (.ref l)) (hi : Ev tb σ H (.int (j : Int))) (hj : j < xs.length)
    (k : ∀ q H1, H q = none → Ex H H1 → H1 q = some (.lst ys) → tz D σ (upd H1 l (.lst (xs.set j (.ref q))))) : tSeq (tAsg te (gSub ta tb rSetL)) tz D σ H := s_setLL (D := { D with nx := tz D }) hl h ho hi hj k
theorem cut1 (xs : List V) : cutV xs (some 1) none = xs.drop 1 := by
  unfold cutV
  rw [show HT.sIx xs.length 0 (some 1) = min 1 xs.length from HT.sIx_nat xs.length 0 1, HT.sIx_none]
  cases xs with
  | nil => rfl
  | cons x r =>
    rw [show min 1 (x :: r).length = 1 by
      rw [List.length_cons]
      omega]
    show (List.take ((x :: r).length - 1) r) = r
    rw [List.length_cons, Nat.add_sub_cancel]
    exact List.take_length
theorem ev_int {K : PySem.W.Frag} {σ : L2.St} {H : Hp} {te : TE} {x : Int} (h : Ev te σ H (.int x)) : Ev (tCB (fun xs H Q => (∃ i, xs = [V.int i] ∧ Q (.int i) H) ∨ ∃ k, xs = [V.bl k] ∧ Q (.int (if k then 1 else 0)) H) (tCons te tNil)) σ H (.int x) :=
  ev_cb (ea_cons h ea_nil) fun H2 _ Q q => .inl ⟨_, rfl, q H2 (Ex.refl H2)⟩
theorem ev_intb {K : PySem.W.Frag} {σ : L2.St} {H : Hp} {te : TE} {b : Bool} (h : Ev te σ H (.bl b)) : Ev (tCB (fun xs H Q => (∃ i, xs = [V.int i] ∧ Q (.int i) H) ∨ ∃ k, xs = [V.bl k] ∧ Q (.int (if k then 1 else 0)) H) (tCons te tNil)) σ H (.int (if b then 1 else 0)) :=
  ev_cb (ea_cons h ea_nil) fun H2 _ Q q => .inr ⟨_, rfl, q H2 (Ex.refl H2)⟩
theorem ev_lenL {K : PySem.W.Frag} {σ : L2.St} {H : Hp} {te : TE} {p : Addr} {xs : List V} (h : Ev te σ H (.ref p)) (hx : SqL K H p xs) : Ev (tCB (fun xs H Q => ∃ p ys, xs = [V.ref p] ∧ (SqL K H p ys ∨ SqT K H p ys) ∧ Q (.int ys.length) H) (tCons te tNil)) σ H (.int (xs.length : Int)) :=
  Evl.ev_len h hx
theorem ev_lenT {K : PySem.W.Frag} {σ : L2.St} {H : Hp} {te : TE} {p : Addr} {xs : List V} (h : Ev te σ H (.ref p)) (hx : SqT K H p xs) : Ev (tCB (fun xs H Q => ∃ p ys, xs = [V.ref p] ∧ (SqL K H p ys ∨ SqT K H p ys) ∧ Q (.int ys.length) H) (tCons te tNil)) σ H (.int (xs.length : Int)) :=
  fun H1 e Q q => h H1 e _ fun H2 e2 => ⟨p, xs, rfl, .inr (ex_t (e.trans e2) hx), q H2 e2⟩
theorem lg {m : Int} (h : m.natAbs < 2 ^ 200) : m.natAbs.log2 < 9000 := Nat.lt_trans (PySem.Flt.log2_lt_of (by decide) h) (by decide)
theorem lgs {m : Int} (h : m.natAbs < 2 ^ 40) : m.natAbs.log2 < 9000 := Nat.lt_trans (PySem.Flt.log2_lt_of (by decide) h) (by decide)
theorem lt40 {n : Nat} (h : n < 1099511627776) : n < 2 ^ 40 := Nat.lt_of_lt_of_le h (by decide)
/-! ### names -/
structure IsName (z : Str) : Prop where
  lo : 1 ≤ z.length
  hi : z.length ≤ 8
  az : ∀ c ∈ z.cps.toList, 97 ≤ c ∧ c ≤ 122
abbrev AZ : Str := "abcdefghijklmnopqrstuvwxyz"
theorem az_at : ∀ i : Nat, i < 26 → AZ.cps.toList[i]? = some (97 + i) := by decide +kernel
theorem az_atI {i : Int} (h0 : 0 ≤ i) (h1 : i < 26) : ∃ c, atI AZ.cps.toList i = some c ∧ 97 ≤ c ∧ c ≤ 122 := by
  refine ⟨97 + i.toNat, ?_, by omega, by omega⟩
  have z := atI_nat (az_at i.toNat (by omega))
  rw [Int.toNat_of_nonneg h0] at z
  exact z
theorem az_len : AZ.length ≤ sizeLine := by decide +kernel
theorem one_len (c : Nat) : (⟨#[c]⟩ : Str).length = 1 := rfl
theorem name_add {z : Str} {c : Nat} (h : ∀ d ∈ z.cps.toList, 97 ≤ d ∧ d ≤ 122) (hc : 97 ≤ c ∧ c ≤ 122) : ∀ d ∈ (z ++ (⟨#[c]⟩ : Str)).cps.toList, 97 ≤ d ∧ d ≤ 122 := by
  intro d hd
  have hd : d ∈ (z.cps ++ #[c]).toList := hd
  rw [Array.toList_append] at hd
  rcases List.mem_append.mp hd with e | e
  · exact h d e
  · have e' : d = c := by simpa using e
    rw [e']
    exact hc
theorem flat_strs (ts : List Str) : (ts.map V.str).all flatV = true := by
  rw [List.all_map]
  exact List.all_eq_true.mpr fun _ _ => rfl
end Cm
set_option Elab.async false
set_option linter.all false
set_option maxRecDepth 100000
set_option maxHeartbeats 2000000
namespace Cm
open PySem PySem.Spec PyProof.Rows L2 Evl

/-- data at v in H, nested at most n deep, none of it at M -/
def Rp (M : Addr → Prop) (H : Hp) : Nat → V → PyData → Prop
  | _, .non, .none => True
  | _, .bl b, .bool c => b = c
  | _, .int i, .int j => i = j
  | _, .str x, .str y => x = y
  | n + 1, .ref a, .list ds => ∃ xs, H a = some (.lst xs) ∧ xs.length ≤ 1000 ∧ Paired (Rp M H n) xs ds ∧ ¬ M a
  | n + 1, .ref a, .tuple ds => ∃ xs, H a = some (.tup xs) ∧ xs.length ≤ 1000 ∧ Paired (Rp M H n) xs ds ∧ ¬ M a
  | _, _, _ => False
abbrev M0 : Addr → Prop := fun _ => False
/-- the heaps agree outside M -/
def ExM (M : Addr → Prop) (H H' : Hp) : Prop := ∀ a o, ¬ M a → H a = some o → H' a = some o
theorem ExM.refl (M : Addr → Prop) (H : Hp) : ExM M H H := fun _ _ _ h => h
theorem ExM.trans {M : Addr → Prop} {H H1 H2 : Hp} (a : ExM M H H1) (b : ExM M H1 H2) : ExM M H H2 := fun x o n h => b x o n (a x o n h)
theorem ExM.of {M : Addr → Prop} {H H' : Hp} (e : Ex H H') : ExM M H H' := fun a o _ h => e a o h
theorem ExM.upd {M : Addr → Prop} {H : Hp} {p : Addr} {o : HO} (h : M p) : ExM M H (upd H p o) := fun a u n e => by
  rw [upd_ne (fun z => n (by rw [z]; exact h))]
  exact e
theorem Rp.exM {M N : Addr → Prop} {H H' : Hp} (hN : ∀ a, N a → M a) (e : ExM M H H') : ∀ {n : Nat} {v : V} {d : PyData}, Rp M H n v d → Rp N H' n v d := by
  intro n
  induction n with
  | zero =>
    intro v d h
    cases v <;> cases d <;> first
      | exact h
      | (exfalso; exact h)
  | succ n ih =>
    intro v d h
    cases v <;> cases d <;> first
      | exact h
      | (exfalso; exact h)
      | (obtain ⟨xs, h1, h2, h3, h4⟩ := h
         exact ⟨xs, e _ _ h4 h1, h2, Paired.mapP h3 fun a b z => ih z, fun z => h4 (hN _ z)⟩)
theorem Rp.ex {M : Addr → Prop} {H H' : Hp} (e : Ex H H') {n : Nat} {v : V} {d : PyData} (h : Rp M H n v d) : Rp M H' n v d := h.exM (fun _ z => z) (ExM.of e)
theorem Rp.weak {M N : Addr → Prop} {H : Hp} (hN : ∀ a, N a → M a) {n : Nat} {v : V} {d : PyData} (h : Rp M H n v d) : Rp N H n v d := h.exM hN (ExM.refl _ _)
theorem Rp.w0 {M : Addr → Prop} {H : Hp} {n : Nat} {v : V} {d : PyData} (h : Rp M H n v d) : Rp M0 H n v d := h.weak fun _ z => z.elim
/-- what is not there is not part of it -/
theorem Rp.add {M : Addr → Prop} {H : Hp} {p : Addr} (hp : H p = none) : ∀ {n : Nat} {v : V} {d : PyData}, Rp M H n v d → Rp (fun a => M a ∨ a = p) H n v d := by
  intro n
  induction n with
  | zero =>
    intro v d h
    cases v <;> cases d <;> first
      | exact h
      | (exfalso; exact h)
  | succ n ih =>
    intro v d h
    cases v <;> cases d <;> first
      | exact h
      | (exfalso; exact h)
      | (obtain ⟨xs, h1, h2, h3, h4⟩ := h
         exact ⟨xs, h1, h2, Paired.mapP h3 fun a b z => ih z, fun z => z.elim h4 fun q => by
           rw [q, hp] at h1
           cases h1⟩)
theorem Rp.up {M : Addr → Prop} {H : Hp} : ∀ {n : Nat} {v : V} {d : PyData}, Rp M H n v d → Rp M H (n + 1) v d := by
  intro n
  induction n with
  | zero =>
    intro v d h
    cases v <;> cases d <;> first
      | exact h
      | (exfalso; exact h)
  | succ n ih =>
    intro v d h
    cases v <;> cases d <;> first
      | exact h
      | (exfalso; exact h)
      | (obtain ⟨xs, h1, h2, h3, h4⟩ := h
         exact ⟨xs, h1, h2, Paired.mapP h3 fun a b z => ih z, h4⟩)
theorem Rp.int {M : Addr → Prop} {H : Hp} {n : Nat} {i : Int} : Rp M H n (.int i) (.int i) := by
  cases n <;> exact (rfl : i = i)
theorem Rp.str {M : Addr → Prop} {H : Hp} {n : Nat} {i : Str} : Rp M H n (.str i) (.str i) := by
  cases n <;> exact (rfl : i = i)
theorem Rp.bl {M : Addr → Prop} {H : Hp} {n : Nat} {i : Bool} : Rp M H n (.bl i) (.bool i) := by
  cases n <;> exact (rfl : i = i)
theorem Rp.non {M : Addr → Prop} {H : Hp} {n : Nat} : Rp M H n .non .none := by
  cases n <;> exact trivial
def tyD : PyData → String
  | .none => "NoneType"
  | .bool _ => "bool"
  | .int _ => "int"
  | .str _ => "str"
  | .list _ => "list"
  | .tuple _ => "tuple"
  | .dict _ => "dict"
theorem Rp.ty {M : Addr → Prop} {K : PySem.W.Frag} {H : Hp} {n : Nat} {v : V} {d : PyData} (h : Rp M H n v d) : TyX K H v (.type (tyD d)) := by
  cases n <;> cases v <;> cases d <;> first
    | (exfalso; exact h)
    | exact .base (.non)
    | exact .base (.bl _)
    | exact .base (.int _)
    | exact .base (.str _)
    | (obtain ⟨xs, h1, _⟩ := h
       exact .base (.lst h1))
    | (obtain ⟨xs, h1, _⟩ := h
       exact .base (.tup h1))
/-- isinstance by the kind of data -/
def isA (T : String) : PyData → Bool
  | .none => T == "NoneType"
  | .bool _ => T == "bool" || T == "int"
  | .int _ => T == "int"
  | .str _ => T == "str"
  | .list _ => T == "list"
  | .tuple _ => T == "tuple"
  | .dict _ => T == "dict"
theorem kit_isA {T : String} (hT : T = "tuple" ∨ T = "list" ∨ T = "bool" ∨ T = "int" ∨ T = "str" ∨ T = "dict") (d : PyData) : kitB (tyD d) T = some (isA T d) := by
  rcases hT with rfl | rfl | rfl | rfl | rfl | rfl <;> cases d <;> (show kitB _ _ = some _) <;> (simp only [tyD, isA]) <;> decide +kernel
theorem ev_isi {M : Addr → Prop} {K : PySem.W.Frag} {σ : L2.St} {H : Hp} {te : TE} {v : V} {n : Nat} {d : PyData} {T : String} (h : Ev te σ H v) (r : Rp M H n v d) (hT : T = "tuple" ∨ T = "list" ∨ T = "bool" ∨ T = "int" ∨ T = "str" ∨ T = "dict") :
    Ev (tCB (rIsi K) (tCons te (tCons (tC (.ty T)) tNil))) σ H (.bl (isA T d)) := fun H1 e Q q =>
  h H1 e _ fun H2 e2 => ⟨v, .ty T, .type (tyD d), .type T, isA T d, rfl, .ty T, (r.ex (e.trans e2)).ty, kit_ty (kit_isA hT d), q H2 e2⟩
theorem walk_zipT {K : PySem.W.Frag} {a b : Addr} {xs ys : List V} {n : Nat} (hn : n = min xs.length ys.length) : Walk (RZ.ItzT K a b) n (fun H => SqT K H a xs ∧ SqT K H b ys) (YPair (fun i => xs[i]?) (fun i => ys[i]?)) := by
  subst hn
  refine ⟨fun i _ hi q => ?_, fun _ q => ⟨xs, ys, q.1, q.2, by omega⟩, fun i H v H' _ q y => ?_⟩
  · have h1 : i < xs.length := by omega
    have h2 : i < ys.length := by omega
    exact ⟨xs, ys, xs[i], ys[i], q.1, q.2, by simp [h1], by simp [h2]⟩
  · obtain ⟨T, x, z, h1, h2, h3, h4, h5⟩ := y
    exact ⟨T, x, z, h1, h2, h3, h4 xs q.1, h5 ys q.2⟩
theorem pair_at {α β : Type} {F : α → β → Prop} : ∀ {l : List α} {m : List β} {i : Nat} {a : α}, Paired F l m → l[i]? = some a → ∃ b, m[i]? = some b ∧ F a b
  | _, _, _, _, .nil, h => by simp at h
  | _, _, 0, _, .cons r _, h => by
    have e := Option.some.inj h
    subst e
    exact ⟨_, rfl, r⟩
  | _, _, i + 1, _, .cons _ t, h => pair_at (i := i) t h
theorem pair_len {α β : Type} {F : α → β → Prop} : ∀ {l : List α} {m : List β}, Paired F l m → l.length = m.length
  | _, _, .nil => rfl
  | _, _, .cons _ t => congrArg (· + 1) (pair_len t)
theorem yes_if {A B : Hp → Prop} {σ : L2.St} {H : Hp} (h : A H) : tYes σ H fun b H3 => if b = true then A H3 else B H3 := by
  show (if true = true then A H else B H)
  rw [if_pos rfl]
  exact h
theorem all_yes (n : Nat) : (List.replicate n true).all id = true := by
  induction n with
  | zero => rfl
  | succ n ih => rw [List.replicate_succ, List.all_cons, ih] <;> rfl
end Cm
set_option Elab.async false
set_option linter.all false
set_option maxRecDepth 100000
set_option maxHeartbeats 4000000
namespace Cm
open PySem PySem.Spec PyProof.Rows L2 Evl

/-! ### own exceptions with an __init__ that calls that of their base -/
/-- the base class S, by the name x: its __init__ is that of ValueError -/
structure Sup (K : PySem.W.Frag) (mg : Str → Option Value) (x : Str) (S : Addr) : Prop where
  g : mg x = some (.ref S)
  rd : ClX.CRead K S (.type "type")
  vv : PySem.W.findCls K (.ref S) (.type "type") "__init__" = some (.val (.builtin "ValueError.__init__"))
section
variable {X : Cx} {e : Expr} {es : List Expr} {te : TE} {ta : TA} {p1 p2 p pos : Pos}
theorem pe_sinit {x : Str} {S : Addr} {pl : Sem Bool} (hg : Gl X x) (s : Sup X.K X.mg x S) (ha : PA X (e :: es) ta)
    (hc : eval (.Call (.Attribute (.Name x p1) "__init__" p2) (e :: es) [] pos) X.env = (do
      let ov ← eval (.Name x p1) X.env
      standAt p2.atName
      let (f, first) ← holding [ov] (getMethod ov "__init__" pl)
      callWith pos f first (backTo pos (starEach (e :: es) X.env)) (backToKw pos (keywordEach [] X.env))) := by rfl)
    (he : starEach (e :: es) X.env = (false, eval e X.env) :: starEach es X.env := by rfl) (hpl : (backTo pos (starEach es X.env)).any (·.1) = false := by rfl) (hdb : (x == ("__debug__" : Str)) = false := by decide) :
    PE X (.Call (.Attribute (.Name x p1) "__init__" p2) (e :: es) [] pos) (tVeI X.K ta) := by
  refine ⟨fun pins sh σ H Q I h => ?_⟩
  refine PySem.W.methodCall_KW (ld_glob I hg s.g ?_ hdb) hc
  refine PySem.W.method_cls I.kIn s.rd.ga (PySem.W.cls_value I.kIn s.rd.rd s.vv (by decide +kernel) ?_)
  show wpAny _ _ (callWith pos (Value.builtin "ValueError.__init__") [] (backTo pos (starEach (e :: es) X.env)) []) _ _ _
  refine PyProof.Rows.callWith_method1 (thn (ha.run pos pins _ σ H _ (I.tok _) h) fun us s1 ⟨vs, H1, I1, r1, a, C, ws, ev, hl, T, ea, q⟩ => ?_) he hpl
  subst ev
  cases r1 with
  | @cons _ u0 _ ur ra rw' =>
    obtain rfl : u0 = Value.ref a := ra
    have hlen : ur.length ≤ sizeLine := by
      rw [← Paired.length rw', sizeLine_eq]
      omega
    exact oinit_ok T I1 ea hlen fun s' J => ⟨.non, H1, J, rfl, q⟩
/-- C(e, ..) as a value: the exception stands at a -/
def tMkV (C : Addr) (sp : Sp) (dvs : List V) (ta : TA) : TE := fun σ H Q => ta σ H fun vs H1 => vs.length ≤ 1000 ∧ ∀ a, H1 a = none → sp (.ref a :: (vs ++ dvs)) (upd H1 a (exo a C none))
  (fun v H2 => v = .non ∧ Q (.ref a) H2) (fun _ _ _ => False)
theorem pe_mkx {CX : CXT} {x : Str} {C fI : Addr} {k : Nat} {fd : FuncData} {ps : List Str} {sp : Sp} {ds : List Value} {dvs : List V} (T : OexC X.K C) (iC : PySem.W.findIn X.K (.ref C) "__init__" = some (some (.ref fI))) (tI : PySem.W.typeIn X.K (.ref fI) = some (.type "function"))
    (F1 : FnOk X.prog X.w X.K X.mg X.base CX k fI fd ps sp) (hr : Room (k + 1) X.A) (hb : Binds X.K fd ps ds) (hd : Vals dvs ds) (hx : Passes CX X (fun _ _ _ => False)) (hg : Gl X x) (hm : X.mg x = some (.ref C)) (ha : PA X (e :: es) ta)
    (hdb : (x == ("__debug__" : Str)) = false := by decide) (he : starEach (e :: es) X.env = (false, eval e X.env) :: starEach es X.env := by rfl) (hpl : (backTo pos (starEach es X.env)).any (·.1) = false := by rfl) :
    PE X (.Call (.Name x p) (e :: es) [] pos) (tMkV C sp dvs ta) := by
  refine ⟨fun pins s σ H Q I h => ?_⟩
  obtain ⟨nm, q, N, bs, bm, sn, sub, ab, col, dd, k0, k1, k2, k3, k5, hC, hbm⟩ := T.cls
  refine wpAny_Call_Name_kw (ld_glob I hg hm ?_ hdb)
  refine PySem.W.callWith_K (h₀ := X.base) I.ok.mod.kin T.kC (thn (ha.run pos pins s σ H _ I h) fun us s1 ⟨vs, H1, I1, r1, hz, q1⟩ => ⟨I1.kIn, ?_⟩) he hpl
  show wpAny _ _ (call (.ref C) us) _ _ _
  obtain ⟨hp, g, dr, tk, os⟩ := s1
  have hsz : hp.objs.size ≤ hp.objs.size + 1 := Nat.le_succ _
  have hn : H1 (hp.objs.size + 1) = none := I1.hok.fresh hsz
  have hq := q1 (hp.objs.size + 1) hn
  have kk : ∀ b o, hp.get? b = some o → ((hp.push (PySem.W.kdv_tup us)).push (PySem.HandSPX.excO C hp.objs.size)).get? b = some o := fun b o e => Heap.get?_push_of_some _ (Heap.get?_push_of_some _ e)
  have hget : ((hp.push (PySem.W.kdv_tup us)).push (PySem.HandSPX.excO C hp.objs.size)).get? (hp.objs.size + 1) = some (PySem.HandSPX.excO C hp.objs.size) := by heap_get
  have I2 : Inv X pins σ (upd H1 (hp.objs.size + 1) (exo (hp.objs.size + 1) C none)) ⟨(hp.push (PySem.W.kdv_tup us)).push (PySem.HandSPX.excO C hp.objs.size), g, dr, tk, os⟩ :=
    I1.laid (t' := tk) (a := hp.objs.size + 1) (o := exo (hp.objs.size + 1) C none) (h' := (hp.push (PySem.W.kdv_tup us)).push (PySem.HandSPX.excO C hp.objs.size)) kk hsz (exo_ok hget)
  have r2 : Vals (V.ref (hp.objs.size + 1) :: (vs ++ dvs)) (Value.ref (hp.objs.size + 1) :: (us ++ ds)) := .cons rfl (r1.append hd)
  have hl : (Value.ref (hp.objs.size + 1) :: us ++ ds).length = ps.length := by
    have e := r2.length
    rw [F1.len _ _ _ _ hq] at e
    exact e.symm
  have hus : us.length ≤ sizeLine := by
    rw [← Paired.length r1, sizeLine_eq]
    omega
  refine wpAny_call (PySem.HandSPX.call_own F.excBase_ValueError (fun Y => PySem.HandSPX.refsVE_contains Y bm hbm) (I1.kIn _ _ hC) (PySem.W.looks_findIn I1.kIn iC) (fun self => PySem.W.bind_fn I1.kIn self tI) hus
    (codeAny_mono (F1.run _ X.stack _ _ ⟨Value.ref (hp.objs.size + 1) :: us, []⟩ (Value.ref (hp.objs.size + 1) :: (us ++ ds)) _ _ (fun _ _ _ => False) (hr.make C us []) (I2.env0.make C us []) (hb _ (Value.ref (hp.objs.size + 1) :: us) I2.kIn hl) r2 hq) fun r s' hq' => ?_))
  cases r with
  | error er => exact hx pins σ _ _ er s' I2 hq'
  | ok fl =>
    cases fl with
    | ret u =>
      obtain ⟨v, H2, os2, bare2, un2, hok2, rv, ev, q2⟩ := hq'
      subst ev
      obtain ⟨h2, g2, d2, t2, os'⟩ := s'
      exact ⟨rv, .ref (hp.objs.size + 1), H2, I2.call' (ch := []) os2 un2 hok2 bare2 (fun b z => absurd z (by simp)), rfl, q2⟩
    | next => exact False.elim hq'
    | brk => exact False.elim hq'
    | cont => exact False.elim hq'
theorem pe_mkx0 {CX : CXT} {x : Str} {C fI : Addr} {k : Nat} {fd : FuncData} {ps : List Str} {sp : Sp} {ds : List Value} {dvs : List V} (T : OexC X.K C) (iC : PySem.W.findIn X.K (.ref C) "__init__" = some (some (.ref fI))) (tI : PySem.W.typeIn X.K (.ref fI) = some (.type "function"))
    (F1 : FnOk X.prog X.w X.K X.mg X.base CX k fI fd ps sp) (hr : Room (k + 1) X.A) (hb : Binds X.K fd ps ds) (hd : Vals dvs ds) (hx : Passes CX X (fun _ _ _ => False)) (hg : Gl X x) (hm : X.mg x = some (.ref C))
    (hdb : (x == ("__debug__" : Str)) = false := by decide) :
    PE X (.Call (.Name x p) [] [] pos) (tMkV C sp dvs tNil) := by
  refine ⟨fun pins s σ H Q I h => ?_⟩
  obtain ⟨nm, q, N, bs, bm, sn, sub, ab, col, dd, k0, k1, k2, k3, k5, hC, hbm⟩ := T.cls
  refine wpAny_Call_Name_kw (ld_glob I hg hm ?_ hdb)
  refine PySem.W.callWith_K0 I.kIn T.kC ?_
  show wpAny _ _ (call (.ref C) []) _ _ _
  obtain ⟨hz, q1⟩ := h
  obtain ⟨hp, g, dr, tk, os⟩ := s
  have r1 : Vals ([] : List V) ([] : List Value) := .nil
  have hsz : hp.objs.size ≤ hp.objs.size + 1 := Nat.le_succ _
  have hn : H (hp.objs.size + 1) = none := I.hok.fresh hsz
  have hq := q1 (hp.objs.size + 1) hn
  have kk : ∀ b o, hp.get? b = some o → ((hp.push (PySem.W.kdv_tup ([] : List Value))).push (PySem.HandSPX.excO C hp.objs.size)).get? b = some o := fun b o e => Heap.get?_push_of_some _ (Heap.get?_push_of_some _ e)
  have hget : ((hp.push (PySem.W.kdv_tup ([] : List Value))).push (PySem.HandSPX.excO C hp.objs.size)).get? (hp.objs.size + 1) = some (PySem.HandSPX.excO C hp.objs.size) := by heap_get
  have I2 : Inv X pins σ (upd H (hp.objs.size + 1) (exo (hp.objs.size + 1) C none)) ⟨(hp.push (PySem.W.kdv_tup ([] : List Value))).push (PySem.HandSPX.excO C hp.objs.size), g, dr, tk, os⟩ :=
    I.laid (t' := tk) (a := hp.objs.size + 1) (o := exo (hp.objs.size + 1) C none) (h' := (hp.push (PySem.W.kdv_tup ([] : List Value))).push (PySem.HandSPX.excO C hp.objs.size)) kk hsz (exo_ok hget)
  have r2 : Vals (V.ref (hp.objs.size + 1) :: (([] : List V) ++ dvs)) (Value.ref (hp.objs.size + 1) :: (([] : List Value) ++ ds)) := .cons rfl (r1.append hd)
  have hl : (Value.ref (hp.objs.size + 1) :: ([] : List Value) ++ ds).length = ps.length := by
    have e := r2.length
    rw [F1.len _ _ _ _ hq] at e
    exact e.symm
  have hus : ([] : List Value).length ≤ sizeLine := by
    exact Nat.zero_le _
  refine wpAny_call (PySem.HandSPX.call_own F.excBase_ValueError (fun Y => PySem.HandSPX.refsVE_contains Y bm hbm) (I.kIn _ _ hC) (PySem.W.looks_findIn I.kIn iC) (fun self => PySem.W.bind_fn I.kIn self tI) hus
    (codeAny_mono (F1.run _ X.stack _ _ ⟨Value.ref (hp.objs.size + 1) :: ([] : List Value), []⟩ (Value.ref (hp.objs.size + 1) :: (([] : List Value) ++ ds)) _ _ (fun _ _ _ => False) (hr.make C ([] : List Value) []) (I2.env0.make C ([] : List Value) []) (hb _ (Value.ref (hp.objs.size + 1) :: ([] : List Value)) I2.kIn hl) r2 hq) fun r s' hq' => ?_))
  cases r with
  | error er => exact hx pins σ _ _ er s' I2 hq'
  | ok fl =>
    cases fl with
    | ret u =>
      obtain ⟨v, H2, os2, bare2, un2, hok2, rv, ev, q2⟩ := hq'
      subst ev
      obtain ⟨h2, g2, d2, t2, os'⟩ := s'
      exact ⟨rv, .ref (hp.objs.size + 1), H2, I2.call' (ch := []) os2 un2 hok2 bare2 (fun b z => absurd z (by simp)), rfl, q2⟩
    | next => exact False.elim hq'
    | brk => exact False.elim hq'
    | cont => exact False.elim hq'
/-- X(), an own exception class without own __init__, as a value -/
structure Exc0 (K : PySem.W.Frag) (mg : Str → Option Value) (x : Str) (C : Addr) : Prop where
  q : PySem.W.excIn K C [.type "ValueError", .type "Exception", .type "BaseException", .type "object"] "ValueError.__new__" = true
  gC : mg x = some (.ref C)
  kC : PySem.W.keepIn K (.ref C) = true
theorem pe_exc0 {C : Addr} {x : Str} (E : Exc0 X.K X.mg x C) (hg : Gl X x := by rfl) (hdb : (x == ("__debug__" : Str)) = false := by decide) :
    PE X (.Call (.Name x p) [] [] pos) (fun _ H Q => ∀ a, H a = none → Q (.ref a) (upd H a (ExO (.ref C) a))) := by
  refine ⟨fun pins s σ H Q I h => ?_⟩
  refine wpAny_Call_Name_kw (ld_glob I hg E.gC ?_ hdb)
  refine PySem.W.callWith_K0 I.kIn E.kC ?_
  show wpAny _ _ (call (.ref C) []) _ _ _
  obtain ⟨bm, N, nm, qn, bs, hdct, sn, sub, ab, col, dd, k0, k1, k2, k3, k5, mN, hC, hN, hni, T⟩ := exc_obj I.kIn E.q
  refine wpAny_call_exc_subT PySem.F.excBase_ValueError T hC hN hni (fun h' a hm => ?_) (by show 0 ≤ sizeLine; exact Nat.zero_le _)
  have hn : H a = none := I.hok.gone hm.new
  obtain ⟨t, ht, _, _⟩ := hm.there
  exact ⟨.ref a, upd H a (ExO (.ref C) a), I.laidN hm.keeps hm.new hn (exO_ok ht ⟨rfl, rfl⟩ rfl rfl rfl (show 4 < 6 by decide)), rfl, h a hn⟩
/-- err.f, err an exception that stands in the heap -/
def tXat (K : PySem.W.Frag) (f : Str) (te : TE) : TE := fun σ H Q => te σ H fun x H1 => ∃ (a C d : Addr) (fs : List (Str × V)) (v : V), x = .ref a ∧ H1 a = some (exo a C (some d)) ∧ H1 d = some (exd d fs) ∧ fs.lookup f = some v ∧ XfC K C ∧ PySem.W.findIn K (.ref C) f = some none ∧ Q v H1
theorem pe_xat {n : Str} (he : PE X e te) (hb : attributeBase e n X.env (eval e X.env) = eval e X.env := by rfl) : PE X (.Attribute e n pos) (tXat X.K n te) := by
  refine ⟨fun pins s σ H Q I h => ?_⟩
  refine attr_of hb (thn (he.run pins s σ H _ I h) fun u s1 hh => ?_)
  obtain ⟨x, H1, I1, rx, a, C, dd, fs, v, ex, ea, ed, l, T, hno, q⟩ := hh
  subst ex
  obtain rfl : u = Value.ref a := rx
  obtain ⟨t1, ho⟩ := exo_at I1.hok ea
  obtain ⟨mA, hns, hr⟩ := exd_at I1.hok ed
  obtain ⟨od, hod, hl⟩ := lookIn_ns hns
  obtain ⟨u, hu, ru⟩ := RelO.some_of (v := v) (o := mA n) (by rw [← l]; exact hr n)
  have J : PySem.W.InstAt s1.heap a { cls := .ref C, dict := some dd, data := .fields #[.ref t1, .none, .none, .none, .bool false, .none] } C (some od) := ⟨ho, rfl, rfl, hod⟩
  exact HandSPX.exc_get I1.kIn J T.ga T.gg T.exC (PySem.W.findObj_own T.hdC hno rfl (by rw [hl, hu])) (handed_of ru) ⟨v, H1, I1.tok _, ru, q⟩
/-- isinstance(err, c) -/
inductive ExAt (H : Hp) (a C : Addr) : Prop where
  | own (d : Option Addr) (h : H a = some (exo a C d)) (hd : ∀ dd, d = some dd → ∃ fs, H dd = some (exd dd fs))
  | bare (h : H a = some (ExO (.ref C) a))
def rIsX (K : PySem.W.Frag) : List V → Hp → VK → Prop := fun xs H Q => ∃ (a C : Addr) (c : V) (cv : Value) (b : Bool), xs = [.ref a, c] ∧ ExAt H a C ∧ L2.ExcC K C ∧ ClsV c cv ∧ PySem.W.kitOne K (.ref C) cv = some b ∧ Q (.bl b) H
theorem call_isx : CallR X (.builtin "isinstance") (rIsX X.K) := by
  intro pins s σ H xs us Q I r h
  obtain ⟨a, C, c, cv, b, rfl, hx, T, k, ek, q⟩ := h
  obtain ⟨u1, u2, rfl, r1, r2⟩ := vals2 r
  cases (show u1 = Value.ref a from r1)
  have e2 := k.eq r2
  subst e2
  have hcl : (PySem.W.clsIn X.K C).isSome = true := by
    obtain ⟨cd, hc, _⟩ := PySem.W.any_some T.hd
    rw [hc] <;> rfl
  have fin : ∀ (ox : Obj) (od : Option Obj), PySem.W.InstAt s.heap a ox C od → wpAny (model X.prog X.w) X.A (call (.builtin "isinstance") [Value.ref a, u2]) (EP X pins σ Q) X.xe s := fun ox od J =>
    PySem.W.kia_one (PySem.W.kitx_exc hcl T.hg T.hk T.hs T.ha T.hn T.ht T.hm) I.kIn J ek (fun z => nomatch z) fun tk => ⟨.bl b, H, I.tok tk, rfl, q⟩
  rcases hx with ⟨d, h, hd⟩ | h
  · obtain ⟨t1, ho⟩ := exo_at I.hok h
    cases d with
    | none => exact fin _ none ⟨ho, rfl, rfl, trivial⟩
    | some dd =>
      obtain ⟨fs, ed⟩ := hd dd rfl
      obtain ⟨mA, hns, _⟩ := exd_at I.hok ed
      obtain ⟨od, hod, _⟩ := lookIn_ns hns
      exact fin _ (some od) ⟨ho, rfl, rfl, hod⟩
  · obtain ⟨⟨oe, vs, ho, hz, hd, _⟩, _, _⟩ := I.hok a _ h
    obtain ⟨oc, od, oda, osl⟩ := oe
    obtain ⟨h1, h2⟩ := hz
    dsimp only at h1 h2 hd
    subst h1 h2 hd
    exact fin _ none ⟨ho, rfl, rfl, trivial⟩
/-! ### {t} in an f-string, t a tuple of small ints -/
def iText (i : Int) : Str := Str.ofString (toString i)
theorem repr_allI {prog : Program} {w : World} : ∀ {l : List Int} {its : List Value}, Vals (l.map V.int) its → (∀ y ∈ l, y.natAbs.log2 < 1920) → ReprAll prog w its (l.map iText)
  | [], _, r, _ => by
    cases r
    exact .nil
  | y :: l, _, r, h => by
    cases r with
    | cons r1 r2 =>
      obtain ⟨t, rfl⟩ := r1
      exact .cons (ReprIs.int t (h y List.mem_cons_self)) (repr_allI r2 fun z hz => h z (List.mem_cons_of_mem _ hz))
theorem piledI : ∀ l : List Int, (∀ y ∈ l, y.natAbs.log2 < 1920) → piled (l.map iText) ≤ 2000 * l.length
  | [], _ => Nat.zero_le _
  | y :: l, h => by
    have h1 : (iText y).length ≤ 1921 := PyProof.Rows.int_text_len_1921 (h y List.mem_cons_self)
    have h2 := piledI l fun z hz => h z (List.mem_cons_of_mem _ hz)
    rw [List.map_cons, piled_cons, List.length_cons]
    omega
def tFmtI (K : PySem.W.Frag) (te : TE) : TE := fun σ H Q => te σ H fun x H1 => ∃ (a : Addr) (l : List Int), x = .ref a ∧ SqT K H1 a (l.map V.int) ∧ (∀ y ∈ l, y.natAbs.log2 < 1920) ∧ l.length ≤ 1000 ∧ ∀ m : Str, m.length ≤ 2000 * l.length + 7 → Q (.str m) H1
theorem pe_fmtI {k : Nat} (hr : Room k X.A) (he : PE X e te) : PE X (.FormattedValue e (-1) none pos) (tFmtI X.K te) := by
  refine ⟨fun pins s σ H Q I h => ?_⟩
  refine wpAny_FormattedValue_plain (thn (he.run pins s σ H _ I h) fun v s1 hv => ?_)
  obtain ⟨x, H1, I1, r1, a, l, rfl, ht, hc, hz, q⟩ := hv
  cases r1
  obtain ⟨its, rv, ⟨o, ho, hcl, n, hd⟩, _⟩ := I1.tuple ht
  have hp := piledI l hc
  have htx := fmt_text (l.map iText)
  have hu := hr.units
  have sl : sizeLine = 16777216 := sizeLine_eq
  exact fmt_tuple (ts := l.map iText) (by omega) ho hcl hd (repr_allI rv hc) (by omega) fun m u tk hm => ⟨.str m, H1, I1.tok _, ⟨u, rfl⟩, q m (by omega)⟩
end
end Cm
set_option Elab.async false
set_option linter.all false
set_option maxRecDepth 100000
set_option maxHeartbeats 4000000
namespace Cm
open PySem PySem.Spec PyProof.Rows L2 Evl

/-! ### what evaluates to something of which a lasting word holds -/
abbrev VP := V → Hp → Prop
def Mono (A : VP) : Prop := ∀ v H H', Ex H H' → A v H → A v H'
def EvP (te : TE) (σ : L2.St) (H : Hp) (A : VP) : Prop := ∀ H1, Ex H H1 → ∀ Q : VK, (∀ v H2, Ex H1 H2 → A v H2 → Q v H2) → te σ H1 Q
def EvAP (ta : TA) (σ : L2.St) (H : Hp) (As : List VP) : Prop := ∀ H1, Ex H H1 → ∀ Q : List V → Hp → Prop, (∀ vs H2, Ex H1 H2 → Paired (fun (A : VP) v => A v H2) As vs → Q vs H2) → ta σ H1 Q
def EvLP (te : TE) (σ : L2.St) (H : Hp) (As : List VP) : Prop := ∀ H1, Ex H H1 → ∀ Q : VK, (∀ p vs H2, H1 p = none → Ex H1 H2 → H2 p = some (.lst vs) → Paired (fun (A : VP) v => A v H2) As vs → Q (.ref p) H2) → te σ H1 Q
/-- data -/
def Da (n : Nat) (d : PyData) : VP := fun v H => Rp M0 H n v d
theorem Da.mono (n : Nat) (d : PyData) : Mono (Da n d) := fun _ _ _ e h => Rp.ex e h
/-- a value itself -/
def Eq' (x : V) : VP := fun v _ => v = x
theorem Eq'.mono (x : V) : Mono (Eq' x) := fun _ _ _ _ h => h
def Monos (As : List VP) : Prop := ∀ A ∈ As, Mono A
theorem Monos.nil : Monos [] := fun _ h => absurd h List.not_mem_nil
theorem Monos.cons {A : VP} {As : List VP} (h : Mono A) (t : Monos As) : Monos (A :: As) := fun B hB => by
  rcases List.mem_cons.mp hB with e | e
  · rw [e]
    exact h
  · exact t B e
theorem Monos.app {As Bs : List VP} (h : Monos As) (t : Monos Bs) : Monos (As ++ Bs) := fun B hB => by
  rcases List.mem_append.mp hB with e | e
  · exact h B e
  · exact t B e
theorem Monos.da (n : Nat) (ds : List PyData) : Monos (ds.map (Da n)) := fun A hA => by
  obtain ⟨d, _, rfl⟩ := List.mem_map.mp hA
  exact Da.mono n d
theorem pairs_ex {As : List VP} {vs : List V} {H H' : Hp} (m : Monos As) (e : Ex H H') (h : Paired (fun (A : VP) v => A v H) As vs) : Paired (fun (A : VP) v => A v H') As vs := by
  induction h with
  | nil => exact .nil
  | @cons A v As vs h1 h2 ih => exact .cons (m A List.mem_cons_self _ _ _ e h1) (ih fun B hB => m B (List.mem_cons_of_mem _ hB))
theorem pairs_app {α β : Type} {F : α → β → Prop} {as bs : List α} {us vs : List β} (h : Paired F as us) (t : Paired F bs vs) : Paired F (as ++ bs) (us ++ vs) := by
  induction h with
  | nil => exact t
  | cons h1 h2 ih => exact .cons h1 ih
theorem pairs_da {H : Hp} {n : Nat} : ∀ {ds : List PyData} {vs : List V}, Paired (fun (A : VP) v => A v H) (ds.map (Da n)) vs → Paired (Rp M0 H n) vs ds
  | [], _, h => by
    cases h
    exact .nil
  | d :: ds, _, h => by
    cases h with
    | cons h1 h2 => exact .cons h1 (pairs_da h2)
theorem pairs_len {α β : Type} {F : α → β → Prop} {as : List α} {us : List β} (h : Paired F as us) : as.length = us.length := pair_len h
section
variable {K : PySem.W.Frag} {σ : L2.St} {H H' : Hp} {te tf : TE} {ta : TA} {A B : VP} {As Bs : List VP} {v : V}
theorem EvP.ex (h : EvP te σ H A) (e : Ex H H') : EvP te σ H' A := fun H1 e1 Q q => h H1 (e.trans e1) Q q
theorem EvP.imp (h : EvP te σ H A) (i : ∀ v H', A v H' → B v H') : EvP te σ H B := fun H1 e1 Q q => h H1 e1 Q fun v H2 e2 a => q v H2 e2 (i v H2 a)
theorem evp_of (h : Ev te σ H v) (a : A v H) (m : Mono A) : EvP te σ H A := fun H1 e1 Q q => h H1 e1 Q fun H2 e2 => q v H2 e2 (m _ _ _ (e1.trans e2) a)
theorem evp_var {i : Nat} (h : σ[i]? = some (some v)) (a : A v H) (m : Mono A) : EvP (tVar i) σ H A := evp_of (ev_var h) a m
theorem evp_str {x : Str} {n : Nat} : EvP (tC (.str x)) σ H (Da n (.str x)) := evp_of ev_c Rp.str (Da.mono _ _)
theorem evp_int {x : Int} {n : Nat} : EvP (tC (.int x)) σ H (Da n (.int x)) := evp_of ev_c Rp.int (Da.mono _ _)
theorem eap_nil : EvAP tNil σ H [] := fun H1 _ _ q => q [] H1 (Ex.refl H1) .nil
theorem eap_cons {tr : TA} (h : EvP te σ H A) (m : Mono A) (hr : EvAP tr σ H As) : EvAP (tCons te tr) σ H (A :: As) := fun H1 e Q q =>
  h H1 e _ fun v H2 e2 a => hr H2 (e.trans e2) _ fun vs H3 e3 as => q _ H3 (e2.trans e3) (.cons (m _ _ _ e3 a) as)
theorem evp_tup {n : Nat} {ds : List PyData} (h : EvAP ta σ H (ds.map (Da n))) (hl : ds.length ≤ 1000) : EvP (tTup ta) σ H (Da (n + 1) (.tuple ds)) := fun H1 e Q q =>
  h H1 e _ fun vs H2 e2 as => by
    have hv : vs.length = ds.length := by
      have z := pairs_len as
      rw [List.length_map] at z
      exact z.symm
    exact ⟨sz_of (by omega), fun p hp => q _ _ (e2.trans (Ex.new hp)) ⟨vs, upd_same, by omega, Paired.mapP (pairs_da as) fun _ _ z => z.ex (Ex.new hp), fun z => z⟩⟩
theorem elp_lst (h : EvAP ta σ H As) (m : Monos As) (hl : As.length ≤ 1000) : EvLP (tLst ta) σ H As := fun H1 e Q q =>
  h H1 e _ fun vs H2 e2 as => by
    have hv := pairs_len as
    exact ⟨sz_of (by omega), fun p hp => q _ _ _ (fresh_back e2 hp) (e2.trans (Ex.new hp)) upd_same (pairs_ex m (Ex.new hp) as)⟩
theorem elp_cat (h1 : EvLP te σ H As) (h2 : EvLP tf σ H Bs) (m1 : Monos As) (m2 : Monos Bs) (hl : As.length + Bs.length ≤ 1000) : EvLP (tOp rCat te tf) σ H (As ++ Bs) := fun H1 e Q q =>
  h1 H1 e _ fun p vs H2 n2 e2 l2 as => h2 H2 (e.trans e2) _ fun p' ws H3 n3 e3 l3 bs => by
    have hv := pairs_len as
    have hw := pairs_len bs
    refine ⟨p, p', vs, ws, rfl, rfl, e3 _ _ l2, l3, sz_of (by omega), fun r hr => ?_⟩
    exact q r _ _ (fresh_back (e2.trans e3) hr) (e2.trans (e3.trans (Ex.new hr))) upd_same (pairs_app (pairs_ex m1 (e3.trans (Ex.new hr)) as) (pairs_ex m2 (Ex.new hr) bs))
/-- the first list stands there -/
theorem elp_catV {p : Addr} {vs : List V} (hv : Ev te σ H (.ref p)) (hp : H p = some (.lst vs)) (as : Paired (fun (A : VP) v => A v H) As vs) (h2 : EvLP tf σ H Bs) (m1 : Monos As) (m2 : Monos Bs) (hl : As.length + Bs.length ≤ 1000) : EvLP (tOp rCat te tf) σ H (As ++ Bs) := fun H1 e Q q =>
  hv H1 e _ fun H2 e2 => h2 H2 (e.trans e2) _ fun p' ws H3 n3 e3 l3 bs => by
    have hv := pairs_len as
    have hw := pairs_len bs
    have e13 := (e.trans e2).trans e3
    refine ⟨p, p', vs, ws, rfl, rfl, e13 _ _ hp, l3, sz_of (by omega), fun r hr => ?_⟩
    exact q r _ _ (fresh_back (e2.trans e3) hr) (e2.trans (e3.trans (Ex.new hr))) upd_same (pairs_app (pairs_ex m1 (e13.trans (Ex.new hr)) as) (pairs_ex m2 (Ex.new hr) bs))
theorem EvLP.da {n : Nat} {ds : List PyData} (h : EvLP te σ H (ds.map (Da n))) (hl : ds.length ≤ 1000) : EvP te σ H (Da (n + 1) (.list ds)) := fun H1 e Q q =>
  h H1 e Q fun p vs H2 _ e2 l as => q _ _ e2 ⟨vs, l, by
    have z := pairs_len as
    rw [List.length_map] at z
    omega, pairs_da as, fun z => z⟩
variable {D : Ends} {tz : TS}
theorem q_asgP {i : Nat} (h : EvP te σ H A) (k : ∀ v H1, Ex H H1 → A v H1 → tz D (σ.set i (some v)) H1) : tSeq (tAsg te (gName i)) tz D σ H := h H (Ex.refl H) _ fun v H1 e a => k v H1 e a
theorem q_asgLP {i : Nat} (h : EvLP te σ H As) (k : ∀ p vs H1, Ex H H1 → H1 p = some (.lst vs) → Paired (fun (A : VP) v => A v H1) As vs → tz D (σ.set i (some (.ref p))) H1) : tSeq (tAsg te (gName i)) tz D σ H := h H (Ex.refl H) _ fun p vs H1 _ e l as => k p vs H1 e l as
theorem s_retP (h : EvP te σ H A) (k : ∀ v H1, Ex H H1 → A v H1 → D.rt v H1) : tRet te D σ H := h H (Ex.refl H) _ k
theorem s_retLP (h : EvLP te σ H As) (k : ∀ p vs H1, Ex H H1 → H1 p = some (.lst vs) → Paired (fun (A : VP) v => A v H1) As vs → D.rt (.ref p) H1) : tRet te D σ H := h H (Ex.refl H) _ fun p vs H1 _ e l as => k p vs H1 e l as
end

/-! ### own exceptions: what is known of a class, and its promise -/
/-- an own exception class (with an __init__ of its own) over the base S -/
structure XC (K : PySem.W.Frag) (C S : Addr) : Prop where
  lk : ∃ nm q N bs sn sub ab col dd k0 k1 k2 k3 k5, K.lookup C = some (excClassObj nm q C N bs [.ref S, .type "ValueError", .type "Exception", .type "BaseException", .type "object"] true sn sub ab col dd k0 k1 k2 k3 k5 "ValueError.__new__")
  sa : PySem.W.findIn K (.ref C) "__setattr__" = some (some (.builtin "object.__setattr__"))
  ga : PySem.W.findIn K (.ref C) "__getattribute__" = some (some (.builtin "BaseException.__getattribute__"))
  gg : PySem.W.findIn K (.ref C) "__getattr__" = some none
  ca : PySem.W.findIn K (.ref C) "__class__" = some (some (.builtin "object.__class__"))
  kC : PySem.W.keepIn K (.ref C) = true
theorem XC.cls {K : PySem.W.Frag} {C S : Addr} (x : XC K C S) : ∃ cd : ClassData, PySem.W.clsIn K C = some cd ∧ cd.mro = [.ref C, .ref S, .type "ValueError", .type "Exception", .type "BaseException", .type "object"] ∧ cd.hasDict = true := by
  obtain ⟨nm, q, N, bs, sn, sub, ab, col, dd, k0, k1, k2, k3, k5, h⟩ := x.lk
  refine ⟨{ name := nm, bases := bs, mro := .ref C :: [.ref S, .type "ValueError", .type "Exception", .type "BaseException", .type "object"], ns := N, qualname := q, hasDict := true, slotNames := sn, subclasses := sub, abstract := ab, collection := col, hasDel := false }, ?_, rfl, rfl⟩
  unfold PySem.W.clsIn
  rw [h] <;> rfl
theorem XC.mro {K : PySem.W.Frag} {C S : Addr} (x : XC K C S) (b : Value) : PySem.W.mroIn K C b = some ([Value.ref C, .ref S, .type "ValueError", .type "Exception", .type "BaseException", .type "object"].contains b) := by
  obtain ⟨cd, h, hm, _⟩ := x.cls
  unfold PySem.W.mroIn
  rw [h, Option.bind_some, hm]
  rfl
theorem XC.ty {K : PySem.W.Frag} {C S : Addr} (x : XC K C S) : PySem.W.typeIn K (.ref C) = some (.type "type") := by
  obtain ⟨nm, q, N, bs, sn, sub, ab, col, dd, k0, k1, k2, k3, k5, h⟩ := x.lk
  show (K.lookup C).map (·.cls) = _
  rw [h] <;> rfl
theorem XC.hd {K : PySem.W.Frag} {C S : Addr} (x : XC K C S) : PySem.W.hasDictIn K C = true := by
  obtain ⟨cd, h, _, hd⟩ := x.cls
  unfold PySem.W.hasDictIn
  rw [h]
  exact hd
theorem XC.exC {K : PySem.W.Frag} {C S : Addr} (x : XC K C S) : PySem.W.subIn K (.ref C) (.type "BaseException") = some true := by
  show PySem.W.mroIn K C _ = _
  rw [x.mro]
  simp
theorem XC.oex {K : PySem.W.Frag} {C S : Addr} (x : XC K C S) : OexC K C := by
  obtain ⟨nm, q, N, bs, sn, sub, ab, col, dd, k0, k1, k2, k3, k5, h⟩ := x.lk
  exact ⟨⟨nm, q, N, bs, _, sn, sub, ab, col, dd, k0, k1, k2, k3, k5, h, rfl⟩, x.sa, x.exC, x.ty, x.kC⟩
theorem XC.xf {K : PySem.W.Frag} {C S : Addr} (x : XC K C S) : XfC K C := ⟨x.ga, x.gg, x.exC, x.hd⟩
/-- object.__class__ is what it is -/
structure Obc (K : PySem.W.Frag) : Prop where
  hn : PySem.W.specialIn K (.builtin "object.__class__") "__get__" = some (some (.builtin "getset_descriptor.__get__"))
  ht : PySem.W.takesIn K (.builtin "object.__class__") = some true
theorem XC.ec {K : PySem.W.Frag} {C S : Addr} (x : XC K C S) (o : Obc K) : L2.ExcC K C := ⟨x.ga, x.gg, x.exC, x.hd, x.ca, o.hn, o.ht, by
  rw [x.mro]
  simp⟩
theorem XC.kit {K : PySem.W.Frag} {C S D T : Addr} (x : XC K C S) (y : XC K D T) : PySem.W.kitOne K (.ref C) (.ref D) = some (decide (D = C) || decide (D = S)) := by
  unfold PySem.W.kitOne PySem.W.kitCls
  by_cases h : C = D
  · subst h
    simp
  · obtain ⟨cd, hc, _⟩ := y.cls
    have e1 : ((PySem.W.clsIn K D).isSome && PySem.W.typeIn K (.ref D) == some (.type "type")) = true := by rw [hc, y.ty] <;> rfl
    rw [if_neg (by simpa using h)]
    show (if _ then _ else _) = _
    rw [if_pos e1]
    show PySem.W.mroIn K C _ = _
    rw [x.mro]
    have h' : ¬ D = C := fun z => h z.symm
    by_cases h2 : D = S
    · simp [h', h2]
    · simp [h', h2]
theorem XC.kitTy {K : PySem.W.Frag} {C S : Addr} (x : XC K C S) : PySem.W.kitOne K (.ref C) (.type "ValueError") = some true := by
  unfold PySem.W.kitOne PySem.W.kitCls
  rw [if_neg (by simp)]
  show (if PySem.W.kitMeta "ValueError" = true then _ else _) = _
  rw [if_pos (by decide +kernel)]
  show PySem.W.mroIn K C _ = _
  rw [x.mro]
  simp
/-- what may be handed to the errors: any shallow data; a text; an int; a tuple of ints -/
def okK : Nat → PyData → Prop
  | 1, .str z => z.length ≤ 100
  | 2, .int i => i.natAbs.log2 < 1920
  | 3, .tuple ds => ds.length ≤ 100 ∧ ∃ l : List Int, ds = l.map .int ∧ ∀ y ∈ l, y.natAbs.log2 < 1920
  | 0, _ => True
  | _, _ => False
/-- what a made error holds -/
def Held (C : Addr) (names : List Str) (ds : List PyData) : VP := fun v H => ∃ a d fs, v = .ref a ∧ H a = some (exo a C d) ∧ (∀ dd, d = some dd → H dd = some (exd dd fs)) ∧
  ∀ (i : Nat) (nm : Str) (e : PyData), names[i]? = some nm → ds[i]? = some e → (∃ dd, d = some dd) ∧ ∃ u, fs.lookup nm = some u ∧ Rp M0 H 1 u e
theorem Held.mono (C : Addr) (names : List Str) (ds : List PyData) : Mono (Held C names ds) := fun v H H' e h => by
  obtain ⟨a, d, fs, rfl, h1, h2, h3⟩ := h
  refine ⟨a, d, fs, rfl, e _ _ h1, fun dd hd => e _ _ (h2 dd hd), fun i nm dd hn hd => ?_⟩
  obtain ⟨hs, u, hu, r⟩ := h3 i nm dd hn hd
  exact ⟨hs, u, hu, r.ex e⟩
def spE (C : Addr) (names : List Str) (ks : List Nat) : Sp := fun vs H Q _ => ∃ (a : Addr) (args : List V) (ds : List PyData), vs = .ref a :: args ∧ H a = some (exo a C none) ∧ Paired (Rp M0 H 1) args ds ∧ Paired okK ks ds ∧ args.length = names.length ∧
  ∀ H', SmB a H H' → Held C names ds (.ref a) H' → Q .non H'
/-- such a class with its __init__ -/
structure XD (P : Program) (w : World) (K : PySem.W.Frag) (mg : Str → Option Value) (base : Heap) (k : Nat) (x : Str) (C S : Addr) (ps : List Str) (sp : Sp) where
  fI : Addr
  fd : FuncData
  xc : XC K C S
  T : OexC K C
  iC : PySem.W.findIn K (.ref C) "__init__" = some (some (.ref fI))
  tI : PySem.W.typeIn K (.ref fI) = some (.type "function")
  G : FnOk P w K mg base CX0 k fI fd ps sp
  b : Binds K fd ps []
  gC : mg x = some (.ref C)
theorem evp_mk {K : PySem.W.Frag} {C : Addr} {names : List Str} {ks : List Nat} {σ : L2.St} {H : Hp} {ta : TA} {ds : List PyData} (h : EvAP ta σ H (ds.map (Da 1))) (ok : Paired okK ks ds) (hl : ds.length = names.length) (h9 : ds.length ≤ 9) :
    EvP (tMkV C (spE C names ks) [] ta) σ H (Held C names ds) := fun H1 e Q q =>
  h H1 e _ fun vs H2 e2 as => by
    have hv := pairs_len as
    rw [List.length_map] at hv
    refine ⟨by omega, fun a ha => ?_⟩
    rw [List.append_nil]
    refine ⟨a, vs, ds, rfl, upd_same, Paired.mapP (pairs_da as) fun _ _ z => z.ex (Ex.new ha), ok, by omega, fun H' s h => ⟨rfl, q _ _ (e2.trans fun b o hb => ?_) h⟩⟩
    have nb : b ≠ a := ne_of_none hb ha
    refine s b o nb ?_
    rw [upd_ne nb]
    exact hb
/-- text parts -/
def PartOk (t : TE) (σ : L2.St) (H : Hp) : Prop := ∀ Q : VK, (∀ y : Str, y.length ≤ 3000000 → Q (.str y) H) → t σ H Q
theorem js_ok {σ : L2.St} {H : Hp} {Q : Str → Hp → Prop} (q : ∀ out, Q out H) : ∀ (ts : List TE) (acc : Str), (∀ t ∈ ts, PartOk t σ H) → acc.length + 3000000 * ts.length ≤ 16777216 → tJs ts acc σ H Q
  | [], acc, _, _ => q acc
  | t :: ts, acc, h, hl => h t List.mem_cons_self _ fun y hy => by
    rw [List.length_cons] at hl
    have e := strLen_append acc y
    refine ⟨y, rfl, ?_, js_ok q ts (acc ++ y) (fun u hu => h u (List.mem_cons_of_mem _ hu)) ?_⟩
    · rw [e, sizeLine_eq]
      omega
    · rw [e]
      omega
theorem part_c {σ : L2.St} {H : Hp} {x : Str} (h : x.length ≤ 3000000) : PartOk (tC (.str x)) σ H := fun Q q => q x h
theorem part_s {σ : L2.St} {H : Hp} {i : Nat} {x : Str} (hs : σ[i]? = some (some (.str x))) (h : x.length ≤ 100) : PartOk (tFmt (tVar i)) σ H := fun Q q => ⟨_, hs, .inl ⟨x, rfl, Nat.le_trans h (by decide), q x (by omega)⟩⟩
theorem part_i {σ : L2.St} {H : Hp} {i : Nat} {x : Int} (hs : σ[i]? = some (some (.int x))) (h : x.natAbs.log2 < 1920) : PartOk (tFmt (tVar i)) σ H := fun Q q => ⟨_, hs, .inr ⟨x, rfl, h, q _ (Nat.le_trans (PyProof.Rows.int_text_len_1921 h) (by decide))⟩⟩
theorem part_t {K : PySem.W.Frag} {σ : L2.St} {H : Hp} {i : Nat} {a : Addr} {l : List Int} (hs : σ[i]? = some (some (.ref a))) (ht : H a = some (.tup (l.map V.int))) (h : ∀ y ∈ l, y.natAbs.log2 < 1920) (hl : l.length ≤ 100) : PartOk (tFmtI K (tVar i)) σ H :=
  fun Q q => ⟨_, hs, a, l, rfl, st_of ht, h, by omega, fun m hm => q m (by omega)⟩
theorem ints_of {H : Hp} {n : Nat} : ∀ {l : List Int} {xs : List V}, Paired (Rp M0 H n) xs (l.map .int) → xs = l.map V.int
  | [], _, h => by
    cases h
    rfl
  | y :: l, _, h => by
    cases h with
    | @cons a b l1 l2 h1 h2 =>
      have e : a = V.int y := by
        cases n <;> cases a <;> first
          | exact congrArg V.int h1
          | (exfalso; exact h1)
      rw [e, ints_of h2]
      rfl
end Cm
set_option Elab.async false
set_option linter.all false
set_option maxRecDepth 100000
set_option maxHeartbeats 4000000
namespace Cm
open PySem PySem.Spec PyProof.Rows L2 Evl
theorem Rp.addM {M N : Addr → Prop} {H : Hp} (hN : ∀ a, N a → M a ∨ H a = none) : ∀ {n : Nat} {v : V} {d : PyData}, Rp M H n v d → Rp N H n v d := by
  intro n
  induction n with
  | zero =>
    intro v d h
    cases v <;> cases d <;> first
      | exact h
      | (exfalso; exact h)
  | succ n ih =>
    intro v d h
    cases v <;> cases d <;> first
      | exact h
      | (exfalso; exact h)
      | (obtain ⟨xs, h1, h2, h3, h4⟩ := h
         exact ⟨xs, h1, h2, Paired.mapP h3 fun a b z => ih z, fun z => (hN _ z).elim h4 fun q => by
           rw [q] at h1
           cases h1⟩)
/-- [e for x in xs], e giving the data ds -/
theorem lc_map {J : It} {nn : Nat} {G : Hp → Prop} {xs : List V} (w : Walk J nn G (YAt xs)) (hnn : nn = xs.length) {j : Nat} {vs : List Nat} {σ : L2.St} {te : TE} {H1 : Hp} {M : Addr → Prop} {n : Nat} {ds : List PyData} (hG : ∀ H', Ex H1 H' → G H')
    (hM : ∀ a, M a → H1 a ≠ none) (hlen : xs.length ≤ 1000) (hds : ds.length = xs.length) (hw : ∀ x, wipe ((wipe σ vs).set j (some x)) vs = wipe σ vs)
    (he : ∀ (i : Nat) (x : V) (d : PyData) (H' : Hp) (M' : Addr → Prop), xs[i]? = some x → ds[i]? = some d → Ex H1 H' → (∀ a, M a → M' a) → (∀ a, M' a → H' a ≠ none) → (∀ a, M' a → M a ∨ H1 a = none) →
      ∀ Q : VK, (∀ v H2, Ex H' H2 → Rp M' H2 n v d → Q v H2) → te ((wipe σ vs).set j (some x)) H' Q)
    {Q : VK} (k : ∀ D H' acc, H1 D = none → Ex H1 H' → H' D = some (.lst acc) → acc.length = xs.length → Paired (Rp M H' n) acc ds → ¬ M D → Q (.ref D) H') :
    ∀ D, H1 D = none → ∃ W : Nat → Nat → Hp → Prop, (∃ m, W 0 m (upd H1 D (.lst []))) ∧ ∀ i m H, W i m H →
      (J.stop i H ∧ Q (.ref D) H) ∨ (J.go i H ∧ ∃ Nx : Hp → Prop, (∀ H', Nx H' → ∃ m', m' < m ∧ W (i + 1) m' H') ∧ ∀ x H', J.yld i H x H' → gName j x (wipe σ vs) H' fun σ2 H2 => wipe σ2 vs = wipe σ vs ∧ tYes σ2 H2 fun b H3 =>
        if b = true then te σ2 H3 fun y H4 => ∃ acc, H4 D = some (.lst acc) ∧ acc.length < sizeLine ∧ Nx (upd H4 D (.lst (acc ++ [y]))) else Nx H3) := by
  subst hnn
  intro D hD
  have hMD : ¬ M D := fun z => hM D z hD
  refine lc_it w (fun i H2 => Ex H1 H2 ∧ ∃ acc, H2 D = some (.lst acc) ∧ acc.length = i ∧ Paired (Rp (fun a => M a ∨ a = D) H2 n) acc (ds.take i)) ⟨Ex.new hD, [], upd_same, rfl, .nil⟩ (fun i H2 _ z => hG H2 z.1) ?_ ?_
  · rintro i v H2 H3 hi ⟨e2, acc, hacc, hal, hpa⟩ ⟨rfl, hv⟩
    obtain ⟨d1, g1⟩ : ∃ d1, ds[i]? = some d1 := ⟨ds[i], List.getElem?_eq_getElem (by omega)⟩
    refine ⟨hw v, yes_if ?_⟩
    refine he i v d1 H3 (fun a => M a ∨ a = D) hv g1 e2 (fun a z => .inl z) (fun a z => ?_) (fun a z => z.imp id fun q => by rw [q]; exact hD) _ fun v' H4 e4 r4 => ?_
    · rcases z with z | z
      · intro q
        have := hM a z
        cases h1 : H1 a with
        | none => exact this h1
        | some o =>
          rw [e2 _ _ h1] at q
          cases q
      · rw [z, hacc]
        exact fun q => nomatch q
    · refine ⟨acc, e4 _ _ hacc, small1000 (by omega), (e2.trans e4).mut hD, acc ++ [v'], upd_same, by rw [List.length_append, List.length_singleton, hal], ?_⟩
      have es : ds.take (i + 1) = ds.take i ++ [d1] := by rw [List.take_add_one, g1] <;> rfl
      rw [es]
      have eu : ExM (fun a => M a ∨ a = D) H4 (upd H4 D (.lst (acc ++ [v']))) := ExM.upd (.inr rfl)
      exact pairs_app (Paired.mapP hpa fun _ _ z => (z.ex e4).exM (fun _ q => q) eu) (.cons (r4.exM (fun _ q => q) eu) .nil)
  · rintro H2 ⟨e2, acc, hacc, hal, hpa⟩
    have et : ds.take xs.length = ds := by rw [← hds, List.take_length]
    rw [et] at hpa
    exact k D H2 acc hD e2 hacc hal (Paired.mapP hpa fun _ _ z => z.weak fun _ q => .inl q) hMD
section
variable {K : PySem.W.Frag} {tl te : TE} {j : Nat} {vs : List Nat} {σ : L2.St} {H : Hp} {M : Addr → Prop} {n : Nat} {ds : List PyData} {xs : List V} {a : Addr}
theorem lcT (hl : Ev tl σ H (.ref a)) (hx : H a = some (.tup xs)) (hM : ∀ a, M a → H a ≠ none) (hlen : xs.length ≤ 1000) (hds : ds.length = xs.length) (hw : ∀ x, wipe ((wipe σ vs).set j (some x)) vs = wipe σ vs)
    (he : ∀ (i : Nat) (x : V) (d : PyData) (H' : Hp) (M' : Addr → Prop), xs[i]? = some x → ds[i]? = some d → Ex H H' → (∀ a, M a → M' a) → (∀ a, M' a → H' a ≠ none) → (∀ a, M' a → M a ∨ H a = none) →
      ∀ Q : VK, (∀ v H2, Ex H' H2 → Rp M' H2 n v d → Q v H2) → te ((wipe σ vs).set j (some x)) H' Q)
    {Q : VK} (k : ∀ D H' acc, H D = none → Ex H H' → H' D = some (.lst acc) → acc.length = xs.length → Paired (Rp M H' n) acc ds → ¬ M D → Q (.ref D) H') : tLc (iTup K tl) (gName j) tYes te vs σ H Q :=
  hl H (Ex.refl H) _ fun H1 e1 => ⟨a, rfl, ⟨xs, st_of (e1 _ _ hx)⟩, lc_map (walk_tup (K := K) (a := a) (xs := xs)) rfl (M := M) (n := n) (ds := ds) (fun H' e => st_of (e _ _ (e1 _ _ hx))) (fun a z q => by
      cases h1 : H a with
      | none => exact hM a z h1
      | some o =>
        rw [e1 _ _ h1] at q
        cases q) hlen hds hw
    (fun i x d H' M' h1 h2 e2 h3 h4 h5 => he i x d H' M' h1 h2 (e1.trans e2) h3 h4 fun a z => (h5 a z).imp id fun q => fresh_back e1 q)
    fun D H' acc hD e2 h1 h2 h3 h4 => k D H' acc (fresh_back e1 hD) (e1.trans e2) h1 h2 h3 h4⟩
theorem lcL (hl : Ev tl σ H (.ref a)) (hx : H a = some (.lst xs)) (hM : ∀ a, M a → H a ≠ none) (hlen : xs.length ≤ 1000) (hds : ds.length = xs.length) (hw : ∀ x, wipe ((wipe σ vs).set j (some x)) vs = wipe σ vs)
    (he : ∀ (i : Nat) (x : V) (d : PyData) (H' : Hp) (M' : Addr → Prop), xs[i]? = some x → ds[i]? = some d → Ex H H' → (∀ a, M a → M' a) → (∀ a, M' a → H' a ≠ none) → (∀ a, M' a → M a ∨ H a = none) →
      ∀ Q : VK, (∀ v H2, Ex H' H2 → Rp M' H2 n v d → Q v H2) → te ((wipe σ vs).set j (some x)) H' Q)
    {Q : VK} (k : ∀ D H' acc, H D = none → Ex H H' → H' D = some (.lst acc) → acc.length = xs.length → Paired (Rp M H' n) acc ds → ¬ M D → Q (.ref D) H') : tLc (iList K tl) (gName j) tYes te vs σ H Q :=
  hl H (Ex.refl H) _ fun H1 e1 => ⟨a, rfl, ⟨xs, sq_of (e1 _ _ hx)⟩, lc_map (walk_list (K := K) (a := a) (xs := xs)) rfl (M := M) (n := n) (ds := ds) (fun H' e => sq_of (e _ _ (e1 _ _ hx))) (fun a z q => by
      cases h1 : H a with
      | none => exact hM a z h1
      | some o =>
        rw [e1 _ _ h1] at q
        cases q) hlen hds hw
    (fun i x d H' M' h1 h2 e2 h3 h4 h5 => he i x d H' M' h1 h2 (e1.trans e2) h3 h4 fun a z => (h5 a z).imp id fun q => fresh_back e1 q)
    fun D H' acc hD e2 h1 h2 h3 h4 => k D H' acc (fresh_back e1 hD) (e1.trans e2) h1 h2 h3 h4⟩
theorem cb1 {r : List V → Hp → VK → Prop} {Q : VK} (h : te σ H fun x H1 => r [x] H1 Q) : tCB r (tCons te tNil) σ H Q := h
theorem ret_ {D : Ends} (h : te σ H D.rt) : tRet te D σ H := h
theorem asg_ {D : Ends} {i : Nat} (h : te σ H fun x H1 => D.nx (σ.set i (some x)) H1) : tAsg te (gName i) D σ H := h
theorem seq_asg {D : Ends} {tz : TS} {i : Nat} (h : te σ H fun x H1 => tz D (σ.set i (some x)) H1) : tSeq (tAsg te (gName i)) tz D σ H := h
theorem drop_ {D : Ends} (h : te σ H fun _ H1 => D.nx σ H1) : tDrop te D σ H := h
theorem seq_drop {D : Ends} {tz : TS} (h : te σ H fun _ H1 => tz D σ H1) : tSeq (tDrop te) tz D σ H := h
end
theorem Rp.skip {M : Addr → Prop} {H : Hp} {p : Addr} {o : HO} (hp : H p = some o) (hl : ∀ xs, o ≠ .lst xs) (ht : ∀ xs, o ≠ .tup xs) : ∀ {n : Nat} {v : V} {d : PyData}, Rp M H n v d → Rp (fun b => M b ∨ b = p) H n v d := by
  intro n
  induction n with
  | zero =>
    intro v d h
    cases v <;> cases d <;> first
      | exact h
      | (exfalso; exact h)
  | succ n ih =>
    intro v d h
    cases v <;> cases d <;> first
      | exact h
      | (exfalso; exact h)
      | (obtain ⟨xs, h1, h2, h3, h4⟩ := h
         exact ⟨xs, h1, h2, Paired.mapP h3 fun a b z => ih z, fun z => z.elim h4 fun q => by
           rw [q, hp] at h1
           first | exact hl _ (Option.some.inj h1) | exact ht _ (Option.some.inj h1)⟩)
theorem exo_lst {e C : Addr} {d : Option Addr} {xs : List V} : exo e C d ≠ .lst xs := fun z => by
  have z' : HO.ext _ = HO.lst xs := z
  cases z'
theorem exd_lst {e : Addr} {fs : List (Str × V)} {xs : List V} : exd e fs ≠ .lst xs := fun z => by
  have z' : HO.ext _ = HO.lst xs := z
  cases z'
theorem held_rp {H1 : Hp} {a dx C : Addr} {o : HO} {n : Nat} {y : V} {d : PyData} (ha : H1 a = some (exo a C none)) (hdx : H1 dx = none) (r : Rp M0 H1 n y d) : Rp M0 (upd (upd H1 dx o) a (exo a C (some dx))) n y d := by
  refine (r.skip ha (fun _ => exo_lst) (fun _ => exo_tup)).exM (fun _ z => z.elim) fun b u nb hb => ?_
  have n1 : b ≠ a := fun z => nb (.inr z)
  rw [upd_ne n1, upd_ne (ne_of_none hb hdx)]
  exact hb
theorem lookup1 (f : Str) (y : V) (fs : List (Str × V)) : ((f, y) :: fs).lookup f = some y := by
  rw [L2.lookup_put, if_pos rfl]
theorem held1 {C a dx : Addr} {f : Str} {y : V} {d : PyData} {H H1 : Hp} (s : Ex H H1) (ha : H1 a = some (exo a C none)) (hdx : H1 dx = none) (hne : dx ≠ a) (r : Rp M0 H1 1 y d) :
    SmB a H (upd (upd H1 dx (exd dx [(f, y)])) a (exo a C (some dx))) ∧ Held C [f] [d] (.ref a) (upd (upd H1 dx (exd dx [(f, y)])) a (exo a C (some dx))) := by
  refine ⟨fun b o nb hb => ?_, a, some dx, [(f, y)], rfl, upd_same, fun dd hd => by cases hd; rw [upd_ne hne, upd_same], fun i nm dd hn hd => ⟨⟨dx, rfl⟩, ?_⟩⟩
  · rw [upd_ne nb, upd_ne (ne_of_none (s _ _ hb) hdx)]
    exact s _ _ hb
  · cases i with
    | zero =>
      cases hn
      cases hd
      exact ⟨y, lookup1 _ _ _, held_rp ha hdx r⟩
    | succ i => simp at hn
theorem held0 {C a : Addr} {H : Hp} (ha : H a = some (exo a C none)) : SmB a H H ∧ Held C [] [] (.ref a) H :=
  ⟨SmB.refl a H, a, Option.none, [], rfl, ha, fun dd hd => (nomatch hd), fun i nm dd hn hd => (by simp at hn)⟩
theorem held2 {C a dx : Addr} {f g : Str} {y z : V} {d e : PyData} {H H1 : Hp} (s : Ex H H1) (ha : H1 a = some (exo a C none)) (hdx : H1 dx = none) (hne : dx ≠ a) (hfg : ¬ f = g) (r : Rp M0 H1 1 y d) (r2 : Rp M0 H1 1 z e) :
    SmB a H (upd (upd (upd H1 dx (exd dx [(f, y)])) a (exo a C (some dx))) dx (exd dx [(g, z), (f, y)])) ∧ Held C [f, g] [d, e] (.ref a) (upd (upd (upd H1 dx (exd dx [(f, y)])) a (exo a C (some dx))) dx (exd dx [(g, z), (f, y)])) := by
  have tr : ∀ {n : Nat} {v : V} {d : PyData}, Rp M0 H1 n v d → Rp M0 (upd (upd (upd H1 dx (exd dx [(f, y)])) a (exo a C (some dx))) dx (exd dx [(g, z), (f, y)])) n v d := fun h => by
    refine ((held_rp (o := exd dx [(f, y)]) ha hdx h).skip (p := dx) (o := exd dx [(f, y)]) (by rw [upd_ne hne, upd_same]) (fun _ => exd_lst) (fun _ => exd_tup)).exM (fun _ z => z.elim) fun b u nb hb => ?_
    rw [upd_ne fun z => nb (.inr z)]
    exact hb
  refine ⟨fun b o nb hb => ?_, a, some dx, [(g, z), (f, y)], rfl, by rw [upd_ne hne.symm, upd_same], fun dd hd => by cases hd; exact upd_same, fun i nm dd hn hd => ⟨⟨dx, rfl⟩, ?_⟩⟩
  · have n1 := ne_of_none (s _ _ hb) hdx
    rw [upd_ne n1, upd_ne nb, upd_ne n1]
    exact s _ _ hb
  · cases i with
    | zero =>
      cases hn
      cases hd
      exact ⟨y, by rw [L2.lookup_put, if_neg hfg]; exact lookup1 _ _ _, tr r⟩
    | succ i =>
      cases i with
      | zero =>
        cases hn
        cases hd
        exact ⟨z, lookup1 _ _ _, tr r2⟩
      | succ i => simp at hn
/-- what okK tells of a value -/
theorem ok1 {M : Addr → Prop} {H : Hp} {n : Nat} {v : V} {d : PyData} (k : okK 1 d) (r : Rp M H n v d) : ∃ z, v = .str z ∧ z.length ≤ 100 := by
  cases d with
  | str z =>
    cases n <;> cases v <;> first
      | exact ⟨_, rfl, by
          have e : _ = z := r
          rw [e]
          exact k⟩
      | (exfalso; exact r)
  | _ => exact (show False from k).elim
theorem ok2 {M : Addr → Prop} {H : Hp} {n : Nat} {v : V} {d : PyData} (k : okK 2 d) (r : Rp M H n v d) : ∃ z, v = .int z ∧ z.natAbs.log2 < 1920 := by
  cases d with
  | int z =>
    cases n <;> cases v <;> first
      | exact ⟨_, rfl, by
          have e : _ = z := r
          rw [e]
          exact k⟩
      | (exfalso; exact r)
  | _ => exact (show False from k).elim
theorem ok3 {H : Hp} {n : Nat} {v : V} {d : PyData} (k : okK 3 d) (r : Rp M0 H n v d) : ∃ (a : Addr) (l : List Int), v = .ref a ∧ H a = some (.tup (l.map V.int)) ∧ (∀ y ∈ l, y.natAbs.log2 < 1920) ∧ l.length ≤ 100 := by
  cases d with
  | tuple ds =>
    obtain ⟨hl, l, rfl, hy⟩ := (show ds.length ≤ 100 ∧ ∃ l : List Int, ds = l.map .int ∧ ∀ y ∈ l, y.natAbs.log2 < 1920 from k)
    cases n <;> cases v <;> first
      | (exfalso; exact r)
      | (obtain ⟨xs, h1, _, h3, _⟩ := r
         rw [ints_of h3] at h1
         rw [List.length_map] at hl
         exact ⟨_, l, rfl, h1, hy, hl⟩)
  | _ => exact (show False from k).elim
theorem ExAt.ex {H H' : Hp} {a C : Addr} (e : Ex H H') (h : ExAt H a C) : ExAt H' a C := by
  rcases h with ⟨d, h, hd⟩ | h
  · refine .own d (e _ _ h) fun dd hdd => ?_
    obtain ⟨fs, z⟩ := hd dd hdd
    exact ⟨fs, e _ _ z⟩
  · exact .bare (e _ _ h)
theorem Held.at_ {C : Addr} {names : List Str} {ds : List PyData} {v : V} {H : Hp} (h : Held C names ds v H) : ∃ a, v = .ref a ∧ ExAt H a C := by
  obtain ⟨a, d, fs, rfl, h1, h2, _⟩ := h
  exact ⟨a, rfl, .own d h1 fun dd hd => ⟨fs, h2 dd hd⟩⟩
section
variable {K : PySem.W.Frag} {σ : L2.St} {H : Hp} {te : TE} {C D S : Addr}
theorem evp_isx {a : Addr} {cv : Value} {c : V} {b : Bool} (hv : Ev te σ H (.ref a)) (h : ExAt H a C) (x : L2.ExcC K C) (k : ClsV c cv) (hk : PySem.W.kitOne K (.ref C) cv = some b) :
    Ev (tCB (rIsX K) (tCons te (tCons (tC c) tNil))) σ H (.bl b) := fun H1 e Q q =>
  hv H1 e _ fun H2 e2 => ⟨a, C, c, cv, b, rfl, h.ex (e.trans e2), x, k, hk, q H2 e2⟩
theorem evp_xat {v : V} {names : List Str} {ds : List PyData} {i : Nat} {f : Str} {d : PyData} (hv : Ev te σ H v) (h : Held C names ds v H) (x : XC K C S) (nf : PySem.W.findIn K (.ref C) f = some none) (hn : names[i]? = some f) (hd : ds[i]? = some d) :
    EvP (tXat K f te) σ H (Da 1 d) := fun H1 e Q q =>
  hv H1 e _ fun H2 e2 => by
    have h' := Held.mono C names ds _ _ _ (e.trans e2) h
    obtain ⟨a, dd, fs, rfl, h1, h2, h3⟩ := h'
    obtain ⟨⟨d0, rfl⟩, u, hu, r⟩ := h3 i f d hn hd
    exact ⟨a, C, d0, fs, u, rfl, h1, h2 d0 rfl, hu, x.xf, nf, q u H2 e2 r⟩
end
/-- the base class SwapError -/
structure SC (K : PySem.W.Frag) (S : Addr) : Prop where
  cls : PySem.W.isClsIn K S = true
  ty : PySem.W.typeIn K (.ref S) = some (.type "type")
theorem XC.kitS {K : PySem.W.Frag} {C S : Addr} (x : XC K C S) (s : SC K S) : PySem.W.kitOne K (.ref C) (.ref S) = some true := by
  unfold PySem.W.kitOne PySem.W.kitCls
  by_cases h : C = S
  · subst h
    simp
  · have e1 : ((PySem.W.clsIn K S).isSome && PySem.W.typeIn K (.ref S) == some (.type "type")) = true := by
      have z : (PySem.W.clsIn K S).isSome = true := s.cls
      rw [z, s.ty] <;> rfl
    rw [if_neg (by simpa using h)]
    show (if _ then _ else _) = _
    rw [if_pos e1]
    show PySem.W.mroIn K C _ = _
    rw [x.mro]
    simp
def rowsA (Cs : List Addr) (nds : List (List Str × List PyData)) : List VP := List.zipWith (fun C nd => Held C nd.1 nd.2) Cs nds
theorem rowsA_at {Cs : List Addr} {nds : List (List Str × List PyData)} {k : Nat} {A : VP} (h : (rowsA Cs nds)[k]? = some A) : ∃ (C : Addr) (nd : List Str × List PyData), Cs[k]? = some C ∧ A = Held C nd.1 nd.2 := by
  unfold rowsA at h
  rw [List.getElem?_zipWith] at h
  cases h1 : Cs[k]? with
  | none =>
    rw [h1] at h
    cases h
  | some C =>
    cases h2 : nds[k]? with
    | none =>
      rw [h1, h2] at h
      cases h
    | some nd =>
      rw [h1, h2] at h
      exact ⟨C, nd, rfl, (Option.some.inj h).symm⟩
theorem rowsA_mono (Cs : List Addr) (nds : List (List Str × List PyData)) : Monos (rowsA Cs nds) := fun A hA => by
  obtain ⟨k, hk⟩ := List.mem_iff_getElem?.mp hA
  obtain ⟨C, nd, _, rfl⟩ := rowsA_at hk
  exact Held.mono _ _ _
def flagsD (Cs : List Addr) (S C : Addr) : List PyData := Cs.map fun c => .bool (decide (c = C) || decide (c = S))
theorem flags_at {Cs : List Addr} {S C : Addr} {k : Nat} (hn : Cs.Nodup) (hS : S ∉ Cs) (h : Cs[k]? = some C) : flagsD Cs S C = (List.range Cs.length).map fun i => .bool (decide (i = k)) := by
  unfold flagsD
  obtain ⟨hk, hC⟩ := List.getElem?_eq_some_iff.mp h
  apply List.ext_getElem
  · simp
  · intro i h1 h2
    have hi : i < Cs.length := by simpa using h1
    simp only [List.getElem_map, List.getElem_range]
    have e1 : ¬ Cs[i] = S := fun z => hS (z ▸ List.getElem_mem hi)
    have e2 : (Cs[i] = C) ↔ i = k := by
      rw [← hC]
      exact List.getElem_inj hn
    by_cases hik : i = k
    · subst hik
      simp [hC]
    · have : ¬ Cs[i] = C := fun z => hik (e2.mp z)
      simp [e1, this, hik]
theorem ints_rp {M : Addr → Prop} {H : Hp} {n : Nat} : ∀ l : List Int, Paired (Rp M H n) (l.map V.int) (l.map .int)
  | [] => .nil
  | _ :: l => .cons Rp.int (ints_rp l)
section
variable {σ : L2.St} {H : Hp} {te ta tb : TE}
theorem evl_da {xs : List V} {bs : List Bool} (h : EvL te σ H xs) (e : xs = bs.map V.bl) (hl : bs.length ≤ 1000) : EvP te σ H (Da 1 (.list (bs.map .bool))) := fun H1 e1 Q q =>
  h H1 e1 Q fun p H2 _ e2 hp => by
    subst e
    refine q _ _ e2 ⟨_, hp, by rw [List.length_map]; exact hl, ?_, fun z => z⟩
    clear h hp hl q
    induction bs with
    | nil => exact .nil
    | cons b bs ih => exact .cons Rp.bl ih
theorem given_bools (n : Nat) (g : Nat → Bool) : given n (fun _ => true) (fun i => V.bl (g i)) = ((List.range n).map g).map V.bl := by
  unfold given
  rw [List.filter_eq_self.mpr (fun _ _ => rfl), List.map_map]
  rfl
theorem lg1920 {m : Int} (h : m.natAbs < 2 ^ 200) : m.natAbs.log2 < 1920 := Nat.lt_trans (PySem.Flt.log2_lt_of (by decide) h) (by decide)
theorem Da.le {n m : Nat} (h : n ≤ m) {d : PyData} {v : V} {H : Hp} (r : Da n d v H) : Da m d v H := by
  induction h with
  | refl => exact r
  | step _ ih => exact Rp.up ih
end
end Cm
set_option Elab.async false
set_option linter.all false
set_option maxRecDepth 100000
set_option maxHeartbeats 4000000
namespace Cm
open PySem PySem.Spec PyProof.Rows L2 Evl

/-- a def of the text that may raise, with its promise -/
structure DfX (P : Program) (w : World) (K : PySem.W.Frag) (mg : Str → Option Value) (base : Heap) (k : Nat) (x : Str) (ps : List Str) (sp : Sp) where
  f : Addr
  fd : FuncData
  G : FnOk P w K mg base (L2.CX P w) k f fd ps sp
  m : mg x = some (.ref f)
  kp : PySem.W.keepIn K (.ref f) = true
  b : Binds K fd ps []
def Bd.dfX {P : Program} {w : World} {K : PySem.W.Frag} {mg : Str → Option Value} {base : Heap} {k : Nat} {x : Str} {st : Stmt} {ps : List Str} {sp : Sp} (B : Bd K mg x st ps) (G : FnOk P w K mg base (L2.CX P w) k B.f B.fd ps sp) : DfX P w K mg base k x ps sp :=
  ⟨B.f, B.fd, G, B.m, B.F.kp, B.b⟩
/-! ### own exceptions on their way -/
/-- the fields of an own exception's dict -/
def Flds (H : Hp) (names : List Str) (ds : List PyData) (fs : List (Str × V)) : Prop := ∀ (i : Nat) (nm : Str) (e : PyData), names[i]? = some nm → ds[i]? = some e → ∃ u, fs.lookup nm = some u ∧ Rp M0 H 1 u e
/-- what is known of an exception that is on its way -/
def Flying (names : List Str) (ds : List PyData) (d : Option Addr) (H : Hp) : Prop := ∃ dd fs, d = some dd ∧ H dd = some (.xd fs) ∧ Flds H names ds fs
theorem Flying.ex {names : List Str} {ds : List PyData} {d : Option Addr} {H H' : Hp} (e : Ex H H') (h : Flying names ds d H) : Flying names ds d H' := by
  obtain ⟨dd, fs, hd, h1, h2⟩ := h
  refine ⟨dd, fs, hd, e _ _ h1, fun i nm x hn hx => ?_⟩
  obtain ⟨u, hu, r⟩ := h2 i nm x hn hx
  exact ⟨u, hu, r.ex e⟩
def spX (C : Addr) (names : List Str) (ks : List Nat) : Sp := fun vs H Q _ => ∃ (a : Addr) (args : List V) (ds : List PyData), vs = .ref a :: args ∧ H a = some (exo a C none) ∧ Paired (Rp M0 H 1) args ds ∧ Paired okK ks ds ∧ args.length = names.length ∧
  ∀ (H' : Hp) (dx : Addr) (fs : List (Str × V)), H dx = none → SmB a H H' → H' a = some (exo a C (some dx)) → H' dx = some (exd dx fs) → Flds H' names ds fs → Q .non H'
theorem held1N {C a dx : Addr} {f : Str} {y : V} {d : PyData} {H H1 : Hp} (s : Ex H H1) (ha : H1 a = some (exo a C none)) (hdx : H1 dx = none) (hne : dx ≠ a) (r : Rp M0 H1 1 y d) :
    SmB a H (upd (upd H1 dx (exd dx [(f, y)])) a (exo a C (some dx))) ∧ (upd (upd H1 dx (exd dx [(f, y)])) a (exo a C (some dx))) a = some (exo a C (some dx)) ∧ (upd (upd H1 dx (exd dx [(f, y)])) a (exo a C (some dx))) dx = some (exd dx [(f, y)]) ∧
    Flds (upd (upd H1 dx (exd dx [(f, y)])) a (exo a C (some dx))) [f] [d] [(f, y)] := by
  refine ⟨fun b o nb hb => ?_, upd_same, by rw [upd_ne hne, upd_same], fun i nm dd hn hd => ?_⟩
  · rw [upd_ne nb, upd_ne (ne_of_none (s _ _ hb) hdx)]
    exact s _ _ hb
  · cases i with
    | zero =>
      cases hn
      cases hd
      exact ⟨y, lookup1 _ _ _, held_rp ha hdx r⟩
    | succ i => simp at hn
theorem held2N {C a dx : Addr} {f g : Str} {y z : V} {d e : PyData} {H H1 : Hp} (s : Ex H H1) (ha : H1 a = some (exo a C none)) (hdx : H1 dx = none) (hne : dx ≠ a) (hfg : ¬ f = g) (r : Rp M0 H1 1 y d) (r2 : Rp M0 H1 1 z e) :
    SmB a H (upd (upd (upd H1 dx (exd dx [(f, y)])) a (exo a C (some dx))) dx (exd dx [(g, z), (f, y)])) ∧ (upd (upd (upd H1 dx (exd dx [(f, y)])) a (exo a C (some dx))) dx (exd dx [(g, z), (f, y)])) a = some (exo a C (some dx)) ∧
    (upd (upd (upd H1 dx (exd dx [(f, y)])) a (exo a C (some dx))) dx (exd dx [(g, z), (f, y)])) dx = some (exd dx [(g, z), (f, y)]) ∧
    Flds (upd (upd (upd H1 dx (exd dx [(f, y)])) a (exo a C (some dx))) dx (exd dx [(g, z), (f, y)])) [f, g] [d, e] [(g, z), (f, y)] := by
  have tr : ∀ {n : Nat} {v : V} {d : PyData}, Rp M0 H1 n v d → Rp M0 (upd (upd (upd H1 dx (exd dx [(f, y)])) a (exo a C (some dx))) dx (exd dx [(g, z), (f, y)])) n v d := fun h => by
    refine ((held_rp (o := exd dx [(f, y)]) ha hdx h).skip (p := dx) (o := exd dx [(f, y)]) (by rw [upd_ne hne, upd_same]) (fun _ => exd_lst) (fun _ => exd_tup)).exM (fun _ z => z.elim) fun b u nb hb => ?_
    rw [upd_ne fun z => nb (.inr z)]
    exact hb
  refine ⟨fun b o nb hb => ?_, by rw [upd_ne hne.symm, upd_same], upd_same, fun i nm dd hn hd => ?_⟩
  · have n1 := ne_of_none (s _ _ hb) hdx
    rw [upd_ne n1, upd_ne nb, upd_ne n1]
    exact s _ _ hb
  · cases i with
    | zero =>
      cases hn
      cases hd
      exact ⟨y, by rw [L2.lookup_put, if_neg hfg]; exact lookup1 _ _ _, tr r⟩
    | succ i =>
      cases i with
      | zero =>
        cases hn
        cases hd
        exact ⟨z, lookup1 _ _ _, tr r2⟩
      | succ i => simp at hn
/-- raise C(..): what flies -/
theorem mk_fly {C : Addr} {names : List Str} {ks : List Nat} {σ : L2.St} {H : Hp} {ta : TA} {ds : List PyData} {Q : XK} (h : EvAP ta σ H (ds.map (Da 1))) (ok : Paired okK ks ds) (hl : ds.length = names.length) (h9 : ds.length ≤ 9)
    (q : ∀ d H', Ex H H' → Flying names ds d H' → Q (.ref C) d H') : tMkO C (spX C names ks) [] ta σ H Q :=
  h H (Ex.refl H) _ fun vs H2 e2 as => by
    have hv := pairs_len as
    rw [List.length_map] at hv
    refine ⟨by omega, fun a ha => ?_⟩
    rw [List.append_nil]
    refine ⟨a, vs, ds, rfl, upd_same, Paired.mapP (pairs_da as) fun _ _ z => z.ex (Ex.new ha), ok, by omega, fun H' dx fs hdx s h1 h2 hf => ⟨rfl, dx, fs, h1, h2, ?_, ?_⟩⟩
    · cases hh : H2 dx with
      | none => rfl
      | some o =>
        rw [Ex.new ha _ _ hh] at hdx
        cases hdx
    have hda : dx ≠ a := fun z => by
      rw [z, upd_same] at hdx
      cases hdx
    have hd2 : H2 dx = none := by
      cases hh : H2 dx with
      | none => rfl
      | some o =>
        rw [Ex.new ha _ _ hh] at hdx
        cases hdx
    refine q _ _ (e2.trans fun b o hb => ?_) ⟨dx, fs, rfl, upd_same, fun i nm x hn hx => ?_⟩
    · have nb : b ≠ a := ne_of_none hb ha
      rw [upd_ne (ne_of_none hb hd2)]
      show del H' a b = _
      rw [del_ne nb]
      refine s b o nb ?_
      rw [upd_ne nb]
      exact hb
    · obtain ⟨u, hu, r⟩ := hf i nm x hn hx
      refine ⟨u, hu, ((r.skip h1 (fun _ => exo_lst) (fun _ => exo_tup)).skip h2 (fun _ => exd_lst) (fun _ => exd_tup)).exM (fun _ z => z.elim) fun b o nb hb => ?_⟩
      rw [upd_ne fun z => nb (.inr z), del_ne fun z => nb (.inl (.inr z))]
      exact hb
section
variable {X : Cx} {K : PySem.W.Frag}
/-- isinstance(e, c), e the exception that the suite holds -/
def rIsD (K : PySem.W.Frag) (a : Addr) (cls : Value) (d : Option Addr) : List V → Hp → VK → Prop := fun xs H Q => ∃ (D : Addr) (c : V) (cv : Value) (b : Bool) (dd : Addr) (fs : List (Str × V)), xs = [.ref a, c] ∧ cls = .ref D ∧ d = some dd ∧ H dd = some (.xd fs) ∧ L2.ExcC K D ∧ ClsV c cv ∧ PySem.W.kitOne K (.ref D) cv = some b ∧ Q (.bl b) H
theorem call_isD {a : Addr} {oe : Obj} {cls : Value} {d : Option Addr} {pn : List (Addr × Obj)} (hK : X.K = K) (hz : Zc cls d oe) (hf : ∃ vs, oe.data = .fields vs) : CallR (X.suite a ((a, oe) :: pn)) (.builtin "isinstance") (rIsD K a cls d) := by
  subst hK
  intro pins s σ H xs us Q I r h
  obtain ⟨D, c, cv, b, dd, fs, rfl, rfl, rfl, hd, T, k, ek, q⟩ := h
  obtain ⟨u1, u2, rfl, r1, r2⟩ := vals2 r
  cases (show u1 = Value.ref a from r1)
  have e2 := k.eq r2
  subst e2
  have hcl : (PySem.W.clsIn X.K D).isSome = true := by
    obtain ⟨cd, hc, _⟩ := PySem.W.any_some T.hd
    rw [hc] <;> rfl
  obtain ⟨ha, _⟩ := I.pin (a, oe) (List.mem_append_left _ List.mem_cons_self)
  obtain ⟨vs, hdata⟩ := hf
  have hx : ObjOk X.prog X.w H s.heap dd (.xd fs) := I.hok dd _ hd
  obtain ⟨mA, hns, _⟩ := hx
  obtain ⟨od, ho, _⟩ := lookIn_ns hns
  have J : PySem.W.InstAt s.heap a oe D (some od) := ⟨ha, hz.1, by unfold PySem.W.notCls; rw [hdata] <;> rfl, by rw [hz.2]; exact ho⟩
  exact PySem.W.kia_one (PySem.W.kitx_exc hcl T.hg T.hk T.hs T.ha T.hn T.ht T.hm) I.kIn J ek (fun z => nomatch z) fun tk => ⟨.bl b, H, I.tok tk, rfl, q⟩
end
/-- except D takes an exception of C -/
theorem XC.exm {K : PySem.W.Frag} {C S D T : Addr} (x : XC K C S) (y : XC K D T) : PySem.W.exmOne K (.ref C) (.ref D) = some (decide (D = C) || decide (D = S)) := by
  have e1 : (PySem.W.subIn K (.ref D) (.type "BaseException") == some true) = true := by rw [y.exC] <;> rfl
  show (if (PySem.W.subIn K (.ref D) (.type "BaseException") == some true) = true then PySem.W.kitCls K (.ref C) (.ref D) else none) = _
  rw [if_pos e1]
  have h := x.kit y
  unfold PySem.W.kitOne at h
  by_cases hCD : C = D
  · subst hCD
    obtain ⟨cd, hc, _⟩ := x.cls
    have e2 : ((PySem.W.clsIn K C).isSome && PySem.W.typeIn K (.ref C) == some (.type "type")) = true := by rw [hc, x.ty] <;> rfl
    unfold PySem.W.kitCls
    show (if _ then _ else _) = _
    rw [if_pos e2]
    show PySem.W.mroIn K C _ = _
    rw [x.mro]
    simp
  · rw [if_neg (by simpa using hCD)] at h
    exact h
theorem XC.exmS {K : PySem.W.Frag} {C S : Addr} (x : XC K C S) (s : SC K S) (hS : PySem.W.subIn K (.ref S) (.type "BaseException") = some true) : PySem.W.exmOne K (.ref C) (.ref S) = some true := by
  have e1 : (PySem.W.subIn K (.ref S) (.type "BaseException") == some true) = true := by rw [hS] <;> rfl
  have e2 : ((PySem.W.clsIn K S).isSome && PySem.W.typeIn K (.ref S) == some (.type "type")) = true := by
    have z : (PySem.W.clsIn K S).isSome = true := s.cls
    rw [z, s.ty] <;> rfl
  show (if (PySem.W.subIn K (.ref S) (.type "BaseException") == some true) = true then PySem.W.kitCls K (.ref C) (.ref S) else none) = _
  rw [if_pos e1]
  unfold PySem.W.kitCls
  show (if _ then _ else _) = _
  rw [if_pos e2]
  show PySem.W.mroIn K C _ = _
  rw [x.mro]
  simp
/-! ### data of any depth in the library's words -/
theorem Rp.dp {K : PySem.W.Frag} {M : Addr → Prop} {H : Hp} : ∀ {n : Nat} {v : V} {d : PyData}, Rp M H n v d → Dp K H v d := by
  intro n
  induction n with
  | zero =>
    intro v d h
    cases v <;> cases d <;> first
      | (exfalso; exact h)
      | exact .non
      | (cases (show _ = _ from h)
         first | exact .bl _ | exact .int _ | exact .str _)
  | succ n ih =>
    have all : ∀ {xs : List V} {ds : List PyData}, Paired (Rp M H n) xs ds → DpAll K H xs ds := fun p => by
      induction p with
      | nil => exact .nil
      | cons a b ih2 => exact .cons (ih a) ih2
    intro v d h
    cases v <;> cases d <;> first
      | (exfalso; exact h)
      | exact .non
      | (cases (show _ = _ from h)
         first | exact .bl _ | exact .int _ | exact .str _)
      | (obtain ⟨xs, h1, _, h3, _⟩ := h
         exact .lst (sq_of h1) (all h3))
      | (obtain ⟨xs, h1, _, h3, _⟩ := h
         exact .tup (st_of h1) (all h3))
/-! ### data that lie off a mask -/
def DaM (M : Addr → Prop) (n : Nat) (d : PyData) : VP := fun v H => Rp M H n v d
theorem DaM.mono (M : Addr → Prop) (n : Nat) (d : PyData) : Mono (DaM M n d) := fun _ _ _ e h => Rp.ex e h
theorem Monos.daM (M : Addr → Prop) (n : Nat) (ds : List PyData) : Monos (ds.map (DaM M n)) := fun A hA => by
  obtain ⟨d, _, rfl⟩ := List.mem_map.mp hA
  exact DaM.mono M n d
theorem pairs_daM {M : Addr → Prop} {H : Hp} {n : Nat} : ∀ {ds : List PyData} {vs : List V}, Paired (fun (A : VP) v => A v H) (ds.map (DaM M n)) vs → Paired (Rp M H n) vs ds
  | [], _, h => by
    cases h
    exact .nil
  | d :: ds, _, h => by
    cases h with
    | cons h1 h2 => exact .cons h1 (pairs_daM h2)
section
variable {K : PySem.W.Frag} {σ : L2.St} {H H' : Hp} {te tf : TE} {ta : TA} {M : Addr → Prop}
theorem evp_scM {n : Nat} {v : V} {d : PyData} (r : ∀ H : Hp, Rp M H n v d) : EvP (tC v) σ H (DaM M n d) := evp_of ev_c (r H) (DaM.mono _ _ _)
theorem evp_tupM {n : Nat} {ds : List PyData} (hM : Live M H) (h : EvAP ta σ H (ds.map (DaM M n))) (hl : ds.length ≤ 1000) : EvP (tTup ta) σ H (DaM M (n + 1) (.tuple ds)) := fun H1 e Q q =>
  h H1 e _ fun vs H2 e2 as => by
    have hv : vs.length = ds.length := by
      have z := pairs_len as
      rw [List.length_map] at z
      exact z.symm
    exact ⟨sz_of (by omega), fun p hp => q _ _ (e2.trans (Ex.new hp)) ⟨vs, upd_same, by omega, Paired.mapP (pairs_daM as) fun _ _ z => z.ex (Ex.new hp), fun z => (hM.ex (e.trans e2)) p z hp⟩⟩
theorem EvLP.daM {n : Nat} {ds : List PyData} (hM : Live M H) (h : EvLP te σ H (ds.map (DaM M n))) (hl : ds.length ≤ 1000) : EvP te σ H (DaM M (n + 1) (.list ds)) := fun H1 e Q q =>
  h H1 e Q fun p vs H2 hp e2 l as => q _ _ e2 ⟨vs, l, by
    have z := pairs_len as
    rw [List.length_map] at z
    omega, pairs_daM as, fun z => (hM.ex e) p z hp⟩
end
end Cm
set_option Elab.async false
set_option linter.all false
set_option maxRecDepth 100000
set_option maxHeartbeats 4000000
namespace Cm
open PySem PySem.Spec PyProof.Rows L2 Evl
section
variable {ta' : TA} {K : PySem.W.Frag} {σ : L2.St} {H H' : Hp} {te tf tg ta tb tc : TE} {M : Addr → Prop} {x y z : V}
/-- a < b < c -/
theorem ev_chain {r1 r2 : R2} {k1 k2 : Bool} (ha : Ev ta σ H x) (hb : Ev tb σ H y) (hc : Ev tc σ H z) (h1 : RV r1 x y H (.bl k1)) (h2 : k1 = true → RV r2 y z H (.bl k2)) : Ev (tChain r1 r2 ta tb tc) σ H (.bl (k1 && k2)) := fun H1 e1 Q q =>
  ha H1 e1 _ fun H2 e2 => hb H2 (e1.trans e2) _ fun H3 e3 => h1 H3 ((e1.trans e2).trans e3) _ fun H4 e4 => ⟨k1, rfl, by
    have e14 := (e1.trans e2).trans (e3.trans e4)
    cases k1 with
    | false => exact q H4 (e2.trans (e3.trans e4))
    | true =>
      show (if true = true then _ else _)
      rw [if_pos rfl]
      exact hc H4 e14 _ fun H5 e5 => h2 rfl H5 (e14.trans e5) _ fun H6 e6 => q H6 (e2.trans (e3.trans (e4.trans (e5.trans e6))))⟩
theorem ev_lenD {n : Nat} {v : V} {ds : List PyData} (h : Ev te σ H v) (r : Rp M H n v (.tuple ds)) : Ev (tCB (fun xs H Q => ∃ p ys, xs = [V.ref p] ∧ (SqL K H p ys ∨ SqT K H p ys) ∧ Q (.int ys.length) H) (tCons te tNil)) σ H (.int (ds.length : Int)) := by
  cases n with
  | zero => cases v <;> exact (show False from r).elim
  | succ n =>
    cases v with
    | ref a =>
      obtain ⟨xs, h1, _, h3, _⟩ := r
      rw [← pair_len h3]
      exact ev_lenT h (st_of h1)
    | _ => exact (show False from r).elim
variable {As : List VP} {D : Ends} {tz : TS}
theorem s_retLPn (h : EvLP te σ H As) (k : ∀ p vs H1, H p = none → Ex H H1 → H1 p = some (.lst vs) → Paired (fun (A : VP) v => A v H1) As vs → D.rt (.ref p) H1) : tRet te D σ H := h H (Ex.refl H) _ fun p vs H1 hp e l as => k p vs H1 hp e l as
theorem q_asgLPn {i : Nat} (h : EvLP te σ H As) (k : ∀ p vs H1, H p = none → Ex H H1 → H1 p = some (.lst vs) → Paired (fun (A : VP) v => A v H1) As vs → tz D (σ.set i (some (.ref p))) H1) : tSeq (tAsg te (gName i)) tz D σ H := h H (Ex.refl H) _ fun p vs H1 hp e l as => k p vs H1 hp e l as
theorem ev_notInL {n : Nat} {v : V} {d : PyData} {ds : List PyData} (h : Ev ta σ H v) (r : Rp M H n v d) (hd : SeqAt.shaped d = true) (hl : EvLP tb σ H (ds.map (DaM M0 1))) (hs : SeqAt.shaped (.list ds) = true) (h1 : ds.length ≤ 1000) : Ev (tOp (rNotInD K) ta tb) σ H (.bl (!ds.any fun z => PyData.eqv z d)) := fun H1 e Q q =>
  h H1 e _ fun H2 e2 => hl H2 (e.trans e2) _ fun p vs H3 hp e3 l3 a3 => by
    have pa := pairs_daM a3
    have hlen := pair_len pa
    have r2 : Rp M0 H3 2 (.ref p) (.list ds) := ⟨vs, l3, by omega, pa, fun z => z⟩
    exact ⟨d, ds, Rp.dp (r.ex ((e.trans e2).trans e3)), Rp.dp r2, hd, hs, q H3 (e2.trans e3)⟩
theorem strM {n : Nat} {x : Str} : EvP (tC (.str x)) σ H (DaM M n (.str x)) := evp_scM fun _ => Rp.str
theorem intM {n : Nat} {x : Int} : EvP (tC (.int x)) σ H (DaM M n (.int x)) := evp_scM fun _ => Rp.int
theorem blM {n : Nat} {x : Bool} : EvP (tC (.bl x)) σ H (DaM M n (.bool x)) := evp_scM fun _ => Rp.bl
theorem nonM {n : Nat} : EvP (tC .non) σ H (DaM M n .none) := evp_scM fun _ => Rp.non
theorem eap_consM {tr : TA} {n : Nat} {d : PyData} {ds : List PyData} (h : EvP te σ H (DaM M n d)) (hr : EvAP tr σ H (ds.map (DaM M n))) : EvAP (tCons te tr) σ H ((d :: ds).map (DaM M n)) := eap_cons h (DaM.mono _ _ _) hr
theorem eap_nilM {n : Nat} : EvAP tNil σ H (([] : List PyData).map (DaM M n)) := eap_nil
theorem elp_lstM {n : Nat} {ds : List PyData} (h : EvAP ta' σ H (ds.map (DaM M n))) (hl : ds.length ≤ 1000) : EvLP (tLst ta') σ H (ds.map (DaM M n)) := elp_lst h (Monos.daM _ _ _) (by rw [List.length_map]; exact hl)
end
theorem exw {te : TE} {σ : L2.St} {H : Hp} {D : Ends} {i : Nat} {A : VP} (h : EvP te σ H A) (k : ∀ v H1, Ex H H1 → A v H1 → D.nx (σ.set i (some v)) H1) : tAsg te (gName i) D σ H := h H (Ex.refl H) _ k
theorem evp_tup2 {σ : L2.St} {H : Hp} {te tf : TE} {n : Nat} {d e : PyData} (h : EvP te σ H (Da n d)) (h2 : EvP tf σ H (Da n e)) : EvP (tTup (tCons te (tCons tf tNil))) σ H (Da (n + 1) (.tuple [d, e])) :=
  evp_tup (n := n) (ds := [d, e]) (eap_cons h (Da.mono _ _) (eap_cons h2 (Da.mono _ _) eap_nil)) (by show 2 ≤ 1000; decide)
theorem evp_non {σ : L2.St} {H : Hp} {n : Nat} : EvP (tC .non) σ H (Da n .none) := evp_of ev_c Rp.non (Da.mono _ _)
theorem evp_tup0 {σ : L2.St} {H : Hp} {n : Nat} : EvP (tTup tNil) σ H (Da (n + 1) (.tuple [])) := evp_tup (n := n) (ds := []) eap_nil (by show 0 ≤ 1000; decide)
theorem evp_tup1 {σ : L2.St} {H : Hp} {te : TE} {n : Nat} {d : PyData} (h : EvP te σ H (Da n d)) : EvP (tTup (tCons te tNil)) σ H (Da (n + 1) (.tuple [d])) :=
  evp_tup (n := n) (ds := [d]) (eap_cons h (Da.mono _ _) eap_nil) (by show 1 ≤ 1000; decide)
/-- a tuple's item -/
theorem ev_ixT {K : PySem.W.Frag} {σ : L2.St} {H : Hp} {te ti : TE} {M : Addr → Prop} {n i : Nat} {v : V} {ds : List PyData} {d : PyData} (h : Ev te σ H v) (r : Rp M H (n + 1) v (.tuple ds)) (hi : Ev ti σ H (.int (i : Int))) (hd : ds[i]? = some d) :
    ∃ u, Rp M H n u d ∧ Ev (tOp (rIxT K) te ti) σ H u := by
  cases v with
  | ref a =>
    obtain ⟨xs, h1, _, h3, _⟩ := r
    have hl := pair_len h3
    have hi' : i < ds.length := by
      rcases List.getElem?_eq_some_iff.mp hd with ⟨z, _⟩
      exact z
    obtain ⟨d', hd', f⟩ := pair_at h3 (List.getElem?_eq_getElem (show i < xs.length by omega))
    rw [hd] at hd'
    cases hd'
    exact ⟨_, f, ev_op h hi (rv_ixT (st_of h1) (at_of (j := i) rfl (List.getElem?_eq_getElem (show i < xs.length by omega))))⟩
  | _ => exact (show False from r).elim
theorem notT {b : Bool} (h : (!b) = true) : b = false := by
  cases b with
  | false => rfl
  | true => cases h
theorem notF {b : Bool} (h : (!b) = false) : b = true := by
  cases b with
  | true => rfl
  | false => cases h
theorem u65 {k : Nat} {A : Around} (hr : Room k A) : A.units + 65 < cLine := by
  have z := hr.un
  omega
theorem u64 {k : Nat} {A : Around} (hr : Room k A) : A.units + 64 < cLine := by
  have z := hr.un
  omega
theorem ev_isD {K : PySem.W.Frag} {σ : L2.St} {H : Hp} {i : Nat} {a D dd : Addr} {fs : List (Str × V)} {c : V} {cv : Value} {b : Bool} (hv : σ[i]? = some (some (.ref a))) (hd : H dd = some (.xd fs)) (T : L2.ExcC K D) (k : ClsV c cv) (hk : PySem.W.kitOne K (.ref D) cv = some b) :
    Ev (tCB (rIsD K a (.ref D) (some dd)) (tCons (tVar i) (tCons (tC c) tNil))) σ H (.bl b) := fun H1 e Q q =>
  ⟨_, hv, D, c, cv, b, dd, fs, rfl, rfl, rfl, e _ _ hd, T, k, hk, q H1 (Ex.refl H1)⟩
theorem pairs_daM' {M : Addr → Prop} {H : Hp} {n : Nat} {vs : List V} {ds : List PyData} (h : Paired (Rp M H n) vs ds) : Paired (fun (A : VP) v => A v H) (ds.map (DaM M n)) vs := by
  induction h with
  | nil => exact .nil
  | cons a b ih => exact .cons a ih
theorem exM_of {M : Addr → Prop} {H H' : Hp} {p : Addr} (s : SmB p H H') (hp : M p) : ExM M H H' := fun b o nb hb => s b o (fun z => nb (by rw [z]; exact hp)) hb
theorem pair_all {α β : Type} {F : α → β → Prop} {l : List α} {m : List β} {P : β → Prop} (h : Paired F l m) (hp : ∀ b ∈ m, P b) {a : α} (ha : a ∈ l) : ∃ b ∈ m, F a b := by
  obtain ⟨i, hi⟩ := List.mem_iff_getElem?.mp ha
  obtain ⟨b, hb, f⟩ := pair_at h hi
  exact ⟨b, List.mem_of_getElem? hb, f⟩
theorem pairs_set {α β : Type} {F : α → β → Prop} {a : α} {b : β} (f : F a b) : ∀ {l : List α} {m : List β} (i : Nat), Paired F l m → Paired F (l.set i a) (m.set i b)
  | [], _, _, h => by
    cases h
    exact .nil
  | _ :: _, _, 0, h => by
    cases h with
    | cons h1 h2 => exact .cons f h2
  | _ :: _, _, i + 1, h => by
    cases h with
    | cons h1 h2 => exact .cons h1 (pairs_set f i h2)
end Cm
set_option Elab.async false
set_option linter.all false
set_option maxRecDepth 100000
set_option maxHeartbeats 4000000
namespace Cm
open PySem PySem.Spec PyProof.Rows L2 Evl
/-! ### enumerate over a tuple -/
theorem meets_enum_newT (t : Addr) (items : Array Value) :
  Meets (Builtin.«enumerate.__new__» { pos := [Value.type "enumerate", Value.ref t] }) fun x R s =>
    s.heap.IsTuple t items ∧
      R (Except.ok (Flow.ret (Value.ref (s.heap.push { cls := Value.type "tuple_iterator", data := Data.fields #[Value.ref t, Value.int 0 0] }).objs.size)))
        { heap := (s.heap.push { cls := Value.type "tuple_iterator", data := Data.fields #[Value.ref t, Value.int 0 0] }).push
              { cls := Value.type "enumerate", data := Data.fields #[Value.none, Value.bool false, Value.ref s.heap.objs.size, rawInt 0, Value.none, Value.none] },
          gens := s.gens, drawn := s.drawn, toks := s.toks, os := s.os } := by
  refine Meets.of_wp fun prog w A R s h => ?_
  obtain ⟨hp, g, d, tk, os⟩ := s
  obtain ⟨hT, h⟩ := h
  have hsub := sub_enumerate
  refine wpAny_bind ?_
  refine wpAny_bind ?_
  refine wpAny_pure ?_
  refine wpAny_ite_false rfl ?_
  refine wpAny_bind ?_
  refine wpAny_of_eq hsub ?_
  refine wpAny_ite_false rfl ?_
  refine wpAny_pure ?_
  refine wpAny_ite_true rfl ?_
  refine wpAny_bind ?_
  refine wpAny_bind ?_
  refine wpAny_stack_any fun st => ?_
  refine wpAny_pure ?_
  have fin : wpAny (model prog w) A.in1 (pyIter (Value.ref t)) (fun v s' => wpAny (model prog w) A.in1 (Builtin.SmallTypes.newRecord (Value.type "enumerate") (Builtin.SmallTypes.ownedTupleFields ++ [v, rawInt 0, Value.none, Value.none])) (fun v s' => wpAny (model prog w) A.in1 (ret v) (fun fin s' => ∃ v, fin = Fin.done (Flow.ret v) ∧ R (Except.ok (Flow.ret v)) s') (fun e s' => R (Except.error e) s') s') (fun e s' => R (Except.error e) s') s') (fun e s' => R (Except.error e) s') ⟨hp, g, d, tk, os⟩ := by
    refine (begins_tuple t items).iter _ _ _ _ _ _ hT ?_
    unfold Builtin.SmallTypes.newRecord
    show wpAny (model prog w) A.in1 (newObj (Value.type "enumerate") _) _ _ _
    refine wpAny_newObj_type ?_ ?_
    · exact wpAny_pure ⟨_, rfl, h⟩
    · show 6 ≤ sizeLine + 2
      decide
  have fin2 : ∀ {F : Sem (Fin)}, F = (do
      let v ← pyIter (Value.ref t)
      let v ← Builtin.SmallTypes.newRecord (Value.type "enumerate") (Builtin.SmallTypes.ownedTupleFields ++ [v, rawInt 0, Value.none, Value.none])
      ret v) → wpAny (model prog w) A.in1 F (fun fin s' => ∃ v, fin = Fin.done (Flow.ret v) ∧ R (Except.ok (Flow.ret v)) s') (fun e s' => R (Except.error e) s') ⟨hp, g, d, tk, os⟩ := fun e => by
    rw [e]
    exact wpAny_bind (wpAny_mono fin (fun v s1 hv => wpAny_bind hv) (fun e s1 z => z))
  split
  · rename_i c tl kw snd tl1 heq
    cases (c == Value.type "enumerate") with
    | true => exact wpAny_ite_true rfl (wpAny_bind (wpAny_pure (fin2 rfl)))
    | false => exact wpAny_ite_false rfl (wpAny_bind (wpAny_pure (fin2 rfl)))
  · exact wpAny_ite_false rfl (wpAny_bind (wpAny_pure (fin2 rfl)))
theorem call_enum_tuple {prog : Program} {w : World} {A : Around} {E : Value → Shared → Prop} {s : Shared} {t : Addr} {items : Array Value} {Q : Value → Shared → Prop} (hT : s.heap.IsTuple t items)
    (h : ∀ h' : Heap, IsEnum h' (s.heap.objs.size + 1) s.heap.objs.size 0 Value.none → h'.IsTupleIter s.heap.objs.size t 0 → h'.objs.size = s.heap.objs.size + 2 → (∀ (b : Addr) (o : Obj), s.heap.get? b = some o → h'.get? b = some o) →
      Q (Value.ref (s.heap.objs.size + 1)) { heap := h', gens := s.gens, drawn := s.drawn, toks := s.toks, os := s.os }) : wpAny (model prog w) A (call (Value.type "enumerate") [Value.ref t]) Q E s := by
  refine callType_new F.called_enumerate (by decide) (F.typeCall_enumerate_1 (Value.ref t)) (F.newCall_enumerate_1 (Value.ref t)) (fun obj => F.args_object_init_2 obj (Value.ref t)) F.entry_enumerate_new (meets_enum_newT t items) ⟨hT, ?_⟩
  have hz := Heap.size_push s.heap { cls := Value.type "tuple_iterator", data := Data.fields #[Value.ref t, Value.int 0 0] }
  rw [hz]
  have he := Heap.get?_push_size (s.heap.push { cls := Value.type "tuple_iterator", data := Data.fields #[Value.ref t, Value.int 0 0] }) (o := { cls := Value.type "enumerate", data := Data.fields #[Value.none, Value.bool false, Value.ref s.heap.objs.size, rawInt 0, Value.none, Value.none] }) rfl
  rw [hz] at he
  refine ⟨⟨_, he, rfl⟩, h _ he ⟨_, Heap.get?_push_of_some _ (Heap.get?_push_size s.heap rfl), rfl, rfl⟩ (by rw [Heap.size_push, hz]) fun b o x => Heap.get?_push_of_some _ (Heap.get?_push_of_some _ x)⟩
/-- enumerate over a tuple -/
def IteT (K : PySem.W.Frag) (a : Addr) : It :=
  { go := fun i H => ∃ xs x, SqT K H a xs ∧ xs[i]? = some x,
    yld := fun i H v H' => ∃ T x, v = V.ref T ∧ H T = none ∧ H' = upd H T (.tup [V.int (i : Int), x]) ∧ ∀ xs, SqT K H a xs → xs[i]? = some x,
    stop := fun i H => ∃ xs, SqT K H a xs ∧ xs.length = i }
theorem turn_enumT {P : Program} {w : World} {K : PySem.W.Frag} {elts : List Expr} {kk : Nat} {tpos : Pos} (a e it : Addr) :
    Turn P w K (Expr.Tuple elts kk tpos) (IteT K a) [e, it] e fun i h => (∃ old, IsEnum h e it (i : Int) old) ∧ h.IsTupleIter it a i ∧ e ≠ it where
  mem := List.mem_cons_self
  obj := fun i h st b hb => by
    obtain ⟨⟨old, he⟩, ⟨o, ho, hc, hd⟩, hne⟩ := st
    simp only [List.mem_cons, List.not_mem_nil, or_false] at hb
    rcases hb with rfl | rfl
    · exact ⟨_, he, fun v q => nomatch q⟩
    · exact ⟨o, ho, fun v q => by
        rw [hd] at q
        cases q⟩
  keep := fun i h h' st k => by
    obtain ⟨⟨old, he⟩, hi, hne⟩ := st
    exact ⟨⟨old, k e List.mem_cons_self _ he⟩, hi.at fun o q => k it (by simp) o q, hne⟩
  item := fun X hP hw hK hc i pins s σ H E I hf st hg => by
    subst hP hw hK
    obtain ⟨⟨old, he⟩, hit, hne⟩ := st
    obtain ⟨xs, x, hq, hx⟩ := hg
    obtain ⟨its, rv, p, hz⟩ := I.tuple hq
    obtain ⟨u, hu, ru⟩ := Vals.get rv hx
    have hT : s.heap.IsTuple a its.toArray := p
    have hel := Heap.lt_size he
    have hil : it < s.heap.objs.size := by
      obtain ⟨o, ho, _⟩ := hit
      exact Heap.lt_size ho
    have hea : e ≠ a := fun z => by
      obtain ⟨o, ho, hcl, _⟩ := hT
      rw [← z] at ho
      have q : s.heap.get? e = _ := he
      rw [q] at ho
      cases ho
      exact absurd (Value.type.inj hcl) (by decide)
    have hai : a ≠ it := fun z => by
      obtain ⟨o, ho, hcl, _⟩ := hT
      obtain ⟨o', ho', hcl', _⟩ := hit
      rw [z] at ho
      rw [ho] at ho'
      cases ho'
      rw [hcl] at hcl'
      exact absurd (Value.type.inj hcl') (by decide)
    have hlt : i < its.toArray.size := by
      rcases List.getElem?_eq_some_iff.mp hu with ⟨z, _⟩
      simpa using z
    refine wpAny_pyNext_enum_itemD (Draws.tuple (A := X.A.in1) (I.ok.hd hc) it a hai its.toArray) he ⟨hit, hT⟩ hlt hne (by simp [hne, hea]) fun x' h' tk hPx ho hSt hTn hsz hk => ?_
    have hx' : x' = u := by
      have z : its[i]? = some x' := by simpa using hPx
      rw [hu] at z
      exact (Option.some.inj z).symm
    subst hx'
    refine ⟨Value.ref s.heap.objs.size, rfl, wpAny_letOwnedTupleGo_enum ho fun h'' he' sb => ?_⟩
    have hT2 := (sb.2 s.heap.objs.size (Nat.ne_of_gt hel)).trans hTn
    have new : ObjOk X.prog X.w (upd H s.heap.objs.size (.tup [V.int (i : Int), x])) h'' s.heap.objs.size (.tup [V.int (i : Int), x]) :=
      ⟨by show 2 ≤ sizeLine; decide, [Value.int (i : Int) tk, x'], .cons ⟨tk, rfl⟩ (.cons ru .nil), _, hT2, rfl, 0, rfl⟩
    have I1 := Inv.turnedNew (t' := tk + 1) I (ch := [e, it]) (fun b ob hb q => (sb.2 b fun z => hb (by simp [z])).trans (hk b ob (fun z => hb (by simp [z])) (fun z => hb (by simp [z])) q)) hf (Nat.le_refl _) new
    refine ⟨.ref s.heap.objs.size, _, I1, rfl, ⟨s.heap.objs.size, x, rfl, I.hok.fresh (Nat.le_refl _), rfl, fun ys hy => ?_⟩, ⟨⟨x', ?_⟩, ?_, hne⟩, fun b hb => ?_⟩
    · rw [I.tuple_inj hy hq]
      exact hx
    · have e1 : ((i + 1 : Nat) : Int) = (i : Int) + 1 := by omega
      rw [e1]
      exact he'
    · exact hSt.1.at fun o q => (sb.2 it hne.symm).trans q
    · have hb' : b < s.heap.objs.size := by
        simp only [List.mem_cons, List.not_mem_nil, or_false] at hb
        rcases hb with rfl | rfl
        · exact hel
        · exact hil
      rw [upd_ne (Nat.ne_of_lt hb')]
      exact (hf b hb).1
  done := fun X hP hw hK hc i pins s σ H E I hf st hg => by
    subst hP hw hK
    obtain ⟨⟨old, he⟩, hit, hne⟩ := st
    obtain ⟨xs, hq, hx⟩ := hg
    obtain ⟨its, rv, p, hz⟩ := I.tuple hq
    have hT : s.heap.IsTuple a its.toArray := p
    have hai : a ≠ it := fun z => by
      obtain ⟨o, ho, hcl, _⟩ := hT
      obtain ⟨o', ho', hcl', _⟩ := hit
      rw [z] at ho
      rw [ho] at ho'
      cases ho'
      rw [hcl] at hcl'
      exact absurd (Value.type.inj hcl') (by decide)
    have hl := Vals.length rv
    have hit' : s.heap.IsTupleIter it a its.toArray.size := by
      have e : its.toArray.size = i := by
        rw [← hx, hl]
        simp
      rw [e]
      exact hit
    obtain ⟨f0, f1, f2, f3, f4, f5⟩ := hf it (by simp)
    exact wpAny_pyNext_enum_endD (Draws.tuple (A := X.A.in1) (I.ok.hd hc) it a hai its.toArray) he ⟨hit', hT⟩ fun h' eb => ⟨rfl, Inv.turned I (fun b o hb q => eb b o hb q) f0 f1 f3 f4 f5⟩
  self := fun A i s Q E st h => by
    obtain ⟨⟨old, he⟩, _⟩ := st
    exact wpAny_pyIter_enum he h
def iEnumT (K : PySem.W.Frag) (ta : TA) : TI := fun σ H R => ta σ H fun vs H1 => ∃ a xs, vs = [.ref a] ∧ SqT K H1 a xs ∧ R (IteT K a) H1
theorem pi_enumT {X : Cx} {e : Expr} {ta : TA} {p pos tpos : Pos} {elts : List Expr} {kk : Nat} (hg : Gl X "enumerate") (hm : X.mg "enumerate" = none) (ha : PA X [e] ta)
    (hs : starEach [e] X.env = [(false, eval e X.env)] := by rfl) : PI X (.Tuple elts kk tpos) (.Call (.Name "enumerate" p) [e] [] pos) (iEnumT X.K ta) := by
  refine ⟨fun pins s σ H R I h => ?_⟩
  refine Call_ (ld_blt I hg hm boot_enumerate (PyProof.Rows.callWith_type1 (thn (ha.run pos pins s σ H _ I h) fun us s1 hh => ?_) hs rfl) (by decide) (by decide))
  obtain ⟨vs, H1, I1, r1, a, xs, rfl, hq, q⟩ := hh
  cases r1 with
  | @cons _ u0 _ ur ra rw' =>
    cases rw'
    obtain rfl : u0 = Value.ref a := ra
    obtain ⟨its, rv, p', hz⟩ := I1.tuple hq
    have hT : s1.heap.IsTuple a its.toArray := p'
    refine call_enum_tuple hT fun h' he hit hsz hk => wpAny_pyIter_enum he ?_
    have I2 := I1.kept (t' := s1.toks) hk
    refine ⟨s1.heap.objs.size + 1, [s1.heap.objs.size + 1, s1.heap.objs.size], _, IteT X.K a, H1, rfl, I2, turn_enumT a _ _, ⟨⟨Value.none, he⟩, hit, Nat.succ_ne_self _⟩, fun b hb => ?_, q⟩
    have hle : s1.heap.objs.size ≤ b := by
      simp only [List.mem_cons, List.not_mem_nil, or_false] at hb
      rcases hb with z | z
      · rw [z]
        exact Nat.le_succ _
      · rw [z]
        exact Nat.le_refl _
    exact Inv.fpOk I1 hle (I1.hok.fresh hle)
theorem walk_enumT {K : PySem.W.Frag} {a : Addr} {xs : List V} : Walk (IteT K a) xs.length (fun H => SqT K H a xs) (YPair (fun i => some (.int (i : Nat))) (fun i => xs[i]?)) := by
  refine ⟨fun i H hi q => ⟨xs, xs[i], q, List.getElem?_eq_getElem hi⟩, fun H q => ⟨xs, q, rfl⟩, fun i H v H' hi q y => ?_⟩
  obtain ⟨T, x, h1, h2, h3, h4⟩ := y
  exact ⟨T, _, x, h1, h2, h3, rfl, h4 xs q⟩
/-! ### in over a tuple of data -/
def rInT (K : PySem.W.Frag) (neg : Bool) : R2 := fun x y H Q => ∃ d ds, Dp K H x d ∧ Dp K H y (.tuple ds) ∧ SeqAt.shaped d = true ∧ SeqAt.shaped (.tuple ds) = true ∧ Q (.bl (if neg then !ds.any fun z => PyData.eqv z d else ds.any fun z => PyData.eqv z d)) H
theorem shaped_all {ds : List PyData} (h : SeqAt.shaped (.tuple ds) = true) : PyData.canLayAll0 ds = true := by
  have z := (Bool.and_eq_true_iff.mp h).1
  unfold PyData.canLay0 at z
  first
    | exact z
    | exact (Bool.and_eq_true_iff.mp z).2
    | exact (Bool.and_eq_true_iff.mp z).1
theorem op_inT {X : Cx} (hu : X.A.units + 65 < cLine) : OpR X (compareOp .In) (rInT X.K false) := by
  intro pins s σ H x y v u Q I rx ry h
  obtain ⟨d, ds, h1, h2, h3, h4, q⟩ := h
  obtain ⟨as, R1⟩ := Dp.reads I d x v h1 rx
  obtain ⟨bs, R2⟩ := Dp.reads I (.tuple ds) y u h2 ry
  have hd : d.depth ≤ 64 := of_decide_eq_true (Bool.and_eq_true_iff.mp h3).2
  refine SeqAt.in_tuple_reads R2 R1 (shaped_all h4) (Bool.and_eq_true_iff.mp h3).1 ?_ ⟨.bl _, H, I, rfl, q⟩
  have z := Nat.min_le_right (PyData.depthAll ds) d.depth
  omega
theorem op_notInT {X : Cx} (hu : X.A.units + 65 < cLine) : OpR X (compareOp .NotIn) (rInT X.K true) := by
  intro pins s σ H x y v u Q I rx ry h
  obtain ⟨d, ds, h1, h2, h3, h4, q⟩ := h
  obtain ⟨as, R1⟩ := Dp.reads I d x v h1 rx
  obtain ⟨bs, R2⟩ := Dp.reads I (.tuple ds) y u h2 ry
  have hd : d.depth ≤ 64 := of_decide_eq_true (Bool.and_eq_true_iff.mp h3).2
  refine SeqAt.notIn_tuple_reads R2 R1 (shaped_all h4) (Bool.and_eq_true_iff.mp h3).1 ?_ ⟨.bl _, H, I, rfl, q⟩
  have z := Nat.min_le_right (PyData.depthAll ds) d.depth
  omega
/-! ### all([.. for c in text]) -/
theorem all_str {K : PySem.W.Frag} {σ : L2.St} {H : Hp} {tv te : TE} {x : Str} {j : Nat} {vs : List Nat} (f : Nat → Bool) (hx : x.length ≤ 1000) (ht : Ev tv σ H (.str x)) (hw : ∀ y, wipe ((wipe σ vs).set j (some y)) vs = wipe σ vs)
    (he : ∀ c H1, Ex H H1 → Ev te ((wipe σ vs).set j (some (.str ⟨#[c]⟩))) H1 (.bl (f c))) : Ev (tCB (rAll K) (tCons (tLc (iStr tv) (gName j) tYes te vs) tNil)) σ H (.bl (x.cps.toList.all f)) := fun H1 e1 Q q =>
  ht H1 e1 _ fun H2 e2 => ⟨x, rfl, fun D hD => by
    refine lc_it (walk_str (z := x)) (fun i H' => Ex H2 H' ∧ H' D = some (.lst ((x.cps.toList.take i).map fun c => V.bl (f c)))) ⟨Ex.new hD, upd_same⟩ (fun _ _ _ _ => trivial) ?_ ?_
    · rintro i v H3 H4 hi ⟨e3, hD3⟩ ⟨rfl, c, hc, rfl⟩
      refine ⟨hw _, yes_if ?_⟩
      refine he c H4 (e1.trans (e2.trans e3)) H4 (Ex.refl _) _ fun H5 e5 => ?_
      have hsz : x.cps.size = x.length := rfl
      refine ⟨_, e5 _ _ hD3, ?_, (e3.trans e5).mut hD, ?_⟩
      · rw [List.length_map, List.length_take]
        have := Nat.min_le_left i x.cps.toList.length
        exact small1000 (by omega)
      · rw [upd_same, List.take_add_one, List.map_append]
        have hc' : x.cps.toList[i]? = some c := by simpa using hc
        rw [hc']
        rfl
    · rintro H3 ⟨e3, hD3⟩
      have ht : x.cps.toList.take x.cps.size = x.cps.toList := by
        rw [← Array.length_toList, List.take_length]
      rw [ht] at hD3
      refine ⟨D, x.cps.toList.map f, rfl, sq_of (by rw [hD3, List.map_map]; rfl), ?_⟩
      rw [List.all_map]
      exact q H3 (e2.trans e3)⟩
theorem az_mem (c : Nat) : decide (c ∈ AZ.cps.toList) = (decide (97 ≤ c) && decide (c ≤ 122)) := by
  have e : AZ.cps.toList = (List.range 26).map (97 + ·) := by decide +kernel
  rw [e]
  by_cases h : 97 ≤ c ∧ c ≤ 122
  · rw [decide_eq_true (by exact List.mem_map.mpr ⟨c - 97, List.mem_range.mpr (by omega), by omega⟩)]
    simp [h]
  · rw [decide_eq_false (fun z => h (by
      obtain ⟨i, hi, rfl⟩ := List.mem_map.mp z
      have := List.mem_range.mp hi
      omega))]
    by_cases h1 : 97 ≤ c
    · have h2 : ¬ c ≤ 122 := fun z => h ⟨h1, z⟩
      simp [h2]
    · simp [h1]
theorem ev_lenS {σ : L2.St} {H : Hp} {te : TE} {z : Str} (h : Ev te σ H (.str z)) (hz : z.length ≤ 1000) : Ev (tCB (fun xs H Q => ∃ z, xs = [V.str z] ∧ z.length ≤ sizeLine ∧ Q (.int z.length) H) (tCons te tNil)) σ H (.int (z.length : Int)) := fun H1 e Q q =>
  h H1 e _ fun H2 e2 => ⟨z, rfl, Nat.le_trans hz (by decide), q H2 e2⟩
theorem rv_sign {H : Hp} {c : Nat} : RV (fun x y H Q => ∃ (c : Nat) (z : Str), x = .str ⟨#[c]⟩ ∧ y = .str z ∧ Q (.bl (decide (c ∈ z.cps.toList))) H) (.str ⟨#[c]⟩) (.str AZ) H (.bl (decide (c ∈ AZ.cps.toList))) := fun H1 e Q q => ⟨c, AZ, rfl, rfl, q H1 (Ex.refl H1)⟩
theorem Rp.strv {M : Addr → Prop} {H : Hp} {n : Nat} {v : V} {z : Str} (r : Rp M H n v (.str z)) : v = .str z := by
  cases n <;> cases v <;> first
    | exact congrArg V.str r
    | (exfalso; exact r)
theorem cutS_le (z : Str) (lo hi : Option Int) : (cutS z lo hi).length ≤ z.length := by
  show (List.toArray _).size ≤ z.cps.size
  rw [List.size_toArray, List.length_take, List.length_drop, Array.length_toList]
  omega
/-- a sign at a place that is there -/
theorem at_sign {z : Str} {i : Int} (h0 : 0 ≤ i) (h1 : i < (z.length : Int)) : ∃ c, atI z.cps.toList i = some c := by
  have h : i.toNat < z.cps.toList.length := by
    rw [Array.length_toList]
    show i.toNat < z.length
    omega
  refine ⟨z.cps.toList[i.toNat], ?_⟩
  have w := atI_nat (List.getElem?_eq_getElem h)
  rw [Int.toNat_of_nonneg h0] at w
  exact w
/-- a name -/
def isN : PyData → Bool
  | .str z => decide (1 ≤ (z.length : Int)) && decide ((z.length : Int) ≤ 8) && z.cps.toList.all fun c => decide (c ∈ AZ.cps.toList)
  | _ => false
end Cm
set_option Elab.async false
set_option linter.all false
set_option maxRecDepth 100000
set_option maxHeartbeats 4000000
namespace Cm
open PySem PySem.Spec PyProof.Rows L2 Evl
/-! ### an object is made where an exception of its __init__ may be caught -/
theorem run_makeS {X : Cx} {CX : CXT} {k n : Nat} {f C : Addr} {fd : FuncData} {ps ks : List Str} {sp : Sp} {E : L2.St → XK} {g : List Value → List Value → List Value} {gV : List V → List V → List V} {pins : List (Addr × Obj)} {σ : L2.St} {H : Hp} {s : Shared} {Q : VK} {us ws : List Value} {vs zs : List V}
    (M : Mk X.K C f) (F : FnOk X.prog X.w X.K X.mg X.base CX k f fd ps sp) (hr : Room (k + 1) X.A) (hb : KBn X.K fd ps (n + 1) ks g gV) (hx : ∀ σ, PassesAt CX X σ (E σ)) (I : L2.Inv X pins σ H s) (r : Vals vs us) (rz : Vals zs ws) (l1 : vs.length = n) (l2 : zs.length = ks.length)
    (h : ∀ x dx, H x = none → H dx = none → dx ≠ x → sp (gV (V.ref x :: vs) zs) (upd (upd H dx (HO.own x)) x (HO.ins C dx [])) (fun v H2 => v = V.non ∧ Q (V.ref x) H2) (E σ)) :
    wpAny (model X.prog X.w) X.A (call (Value.ref C) us (ks.zip ws)) (EP X pins σ Q) X.xe s := by
  have hq := h (s.heap.objs.size + 1) s.heap.objs.size (HOk.fresh I.hok (Nat.le_succ s.heap.objs.size)) (HOk.fresh I.hok (Nat.le_refl s.heap.objs.size)) (Nat.ne_of_lt (Nat.lt_succ_self s.heap.objs.size))
  have I2 := Inv.made (C := C) I
  have r1 : Vals (V.ref (s.heap.objs.size + 1) :: vs) (Value.ref (s.heap.objs.size + 1) :: us) := .cons rfl r
  have r2 := hb.rel r1 rz
  have n1 : (Value.ref (s.heap.objs.size + 1) :: us).length = n + 1 := by rw [List.length_cons, ← Vals.length r, l1]
  refine wpAny_call (make_map (Inv.kIn I) M.makes M.init (beq_iff_eq.mp M.fn) (codeAny_mono (F.run _ X.stack _ _ ⟨Value.ref (s.heap.objs.size + 1) :: us, ks.zip ws⟩ (g (Value.ref (s.heap.objs.size + 1) :: us) ws) _ _ _ (Room.make hr C us (ks.zip ws)) (Env0.make (Inv.env0 I2) C us (ks.zip ws)) (hb.to _ (Value.ref (s.heap.objs.size + 1) :: us) ws (Inv.kIn I2) n1 ((Vals.length rz).symm.trans l2)) r2 hq) fun r s' hq' => ?_))
  cases r with
  | error e => exact hx σ pins _ _ e s' I2 hq'
  | ok fl =>
    cases fl with
    | ret u =>
      obtain ⟨v, H', I3, rv, ev, q3⟩ := Inv.after I2 hq'
      subst ev
      exact ⟨rv, .ref (s.heap.objs.size + 1), H', I3, rfl, q3⟩
    | next => exact False.elim hq'
    | brk => exact False.elim hq'
    | cont => exact False.elim hq'
def tMakeS (C : Addr) (n m : Nat) (sp : Sp) (gV : List V → List V → List V) (E : L2.St → XK) (t tk : TA) : TE := fun σ H Q => t σ H fun vs H1 => tk σ H1 fun zs H2 => vs.length = n ∧ zs.length = m ∧ ∀ x dx, H2 x = none → H2 dx = none → dx ≠ x → sp (gV (V.ref x :: vs) zs) (upd (upd H2 dx (HO.own x)) x (HO.ins C dx [])) (fun v H3 => v = V.non ∧ Q (V.ref x) H3) (E σ)
theorem pe_makeS {X : Cx} {CX : CXT} {k n : Nat} {f C : Addr} {fd : FuncData} {ps ks : List Str} {sp : Sp} {E : L2.St → XK} {x : Str} {p pos : Pos} {e : Expr} {es : List Expr} {kws : List Keyword} {t tk : TA} {g : List Value → List Value → List Value} {gV : List V → List V → List V}
    (M : Mk X.K C f) (F : FnOk X.prog X.w X.K X.mg X.base CX k f fd ps sp) (hr : Room (k + 1) X.A) (hg : Gl X x) (hm : X.mg x = some (Value.ref C)) (hb : KBn X.K fd ps (n + 1) ks g gV) (hx : ∀ σ, PassesAt CX X σ (E σ)) (ha : PA X (e :: es) t) (hkw : PK X kws tk)
    (hall : ((backToKw pos (keywordEach kws X.env)).all fun x => x.fst.isSome) = true := by rfl) (hks : List.filterMap (fun x => x.fst) (backToKw pos (keywordEach kws X.env)) = ks := by rfl) (hdb : (x == ("__debug__" : Str)) = false := by decide) (he : starEach (e :: es) X.env = (false, eval e X.env) :: starEach es X.env := by rfl)
    (hpl : (((backTo pos (starEach (e :: es) X.env)).any fun x => x.fst) || (backToKw pos (keywordEach kws X.env)).any fun x => x.fst.isNone) = false := by rfl) : PE X (.Call (.Name x p) (e :: es) kws pos) (tMakeS C n ks.length sp gV E t tk) := by
  refine ⟨fun pins s σ H Q I h => ?_⟩
  refine wpAny_Call_Name_kw (ld_glob I hg hm ?_ hdb)
  refine PySem.W.callWith_KW I.ok.mod.kin M.kp hall (thn (ha.run pos pins s σ H _ I h) fun us s1 hh => ?_) hpl he
  obtain ⟨vs, H1, I1, r, q⟩ := hh
  refine thn (hkw.run pos pins s1 σ H1 _ I1 q) fun ws s2 hh2 => ?_
  obtain ⟨zs, H2, I2, rz, l1, l2, q2⟩ := hh2
  refine ⟨I2.kIn, ?_⟩
  rw [hks]
  exact run_makeS M F hr hb hx I2 r rz l1 l2 q2
/-- o.f, the text told by itself (for bodies of try) -/
theorem pe_fldK {X : Cx} {K : PySem.W.Frag} {e : Expr} {ta : TE} {f : Str} {pos : Pos} (hK : X.K = K) (he : PE X e ta) (hb : attributeBase e f X.env (eval e X.env) = eval e X.env) : PE X (.Attribute e f pos) (tFld K ta f) := by
  subst hK
  exact pe_fld he hb
theorem ix_tupK {X : Cx} {K : PySem.W.Frag} (hK : X.K = K) : IxR X (rIxT K) := by
  subst hK
  exact ix_tup
theorem ix_listK {X : Cx} {K : PySem.W.Frag} (hK : X.K = K) : IxR X (rIxL K) := by
  subst hK
  exact ix_list
theorem call_isiK {X : Cx} {K : PySem.W.Frag} (hK : X.K = K) : CallR X (.builtin "isinstance") (rIsi K) := by
  subst hK
  exact call_isi
/-- all([.. for x in t]), each of them true -/
theorem all_tup {K : PySem.W.Frag} {σ : L2.St} {H : Hp} {tl te : TE} {a : Addr} {xs : List V} {j : Nat} {vs : List Nat} (hx : H a = some (.tup xs)) (hl : xs.length ≤ 1000) (ht : Ev tl σ H (.ref a)) (hw : ∀ y, wipe ((wipe σ vs).set j (some y)) vs = wipe σ vs)
    (he : ∀ (i : Nat) (x : V) (H1 : Hp), Ex H H1 → xs[i]? = some x → Ev te ((wipe σ vs).set j (some x)) H1 (.bl true)) : Ev (tCB (rAll K) (tCons (tLc (iTup K tl) (gName j) tYes te vs) tNil)) σ H (.bl true) := fun H1 e1 Q q =>
  ht H1 e1 _ fun H2 e2 => ⟨a, rfl, ⟨xs, st_of ((e1.trans e2) _ _ hx)⟩, fun D hD => by
    refine lc_it (walk_tup (K := K) (a := a) (xs := xs)) (fun i H' => Ex H2 H' ∧ H' D = some (.lst ((List.replicate i true).map V.bl))) ⟨Ex.new hD, upd_same⟩ (fun _ H' _ z => st_of (((e1.trans e2).trans z.1) _ _ hx)) ?_ ?_
    · rintro i v H3 H4 hi ⟨e3, hD3⟩ ⟨rfl, hv⟩
      refine ⟨hw _, yes_if ?_⟩
      refine he i v H4 (e1.trans (e2.trans e3)) hv H4 (Ex.refl _) _ fun H5 e5 => ?_
      refine ⟨_, e5 _ _ hD3, ?_, (e3.trans e5).mut hD, ?_⟩
      · rw [List.length_map, List.length_replicate]
        exact small1000 (by omega)
      · rw [upd_same, List.replicate_succ', List.map_append]
        rfl
    · rintro H3 ⟨e3, hD3⟩
      refine ⟨D, _, rfl, sq_of hD3, ?_⟩
      rw [all_yes]
      exact q H3 (e2.trans e3)⟩
end Cm
set_option Elab.async false
set_option linter.all false
set_option maxRecDepth 100000
set_option maxHeartbeats 4000000
namespace Cm
open PySem PySem.Spec PyProof.Rows L2
/-! ### comprehensions of three clauses -/
abbrev FF : Value → Shared → Prop := fun _ _ => False
/-- the loop of clause k: what is asked of one turn -/
def Turns (M : Model) (A : Around) (env : Env) (E : Expr) (k : Nat) (D : Value) (tg : Expr) (ifs : List Expr) (Bo : (Shared → Prop) → Shared → Prop) : Prop :=
  ∀ (it : Value) (R : Result → Shared → Prop) (J : Nat → Shared → Prop), (∀ n z, J n z → wpAny M A (pyNext it) (fun r z1 => match r with
    | none => R (.ok .next) z1
    | some v => wpAny M A (letOwnedTupleGo tg it v) (fun _ z2 => wpAny M A (assign tg env v) (fun _ z3 =>
        wpAny M A (forIn ifs true fun c r => if r = true then do let ok ← isTrue c env (eval c env); pure (ForInStep.yield ok) else pure (ForInStep.yield r)) (fun b z4 => if b = true then Bo (fun z5 => ∃ m, m < n ∧ J m z5) z4 else ∃ m, m < n ∧ J m z4) FF z3) FF z2) FF z1) FF z) →
    ∀ n z, J n z → codeAny M A (.compLoop E k it D env) R z
/-- what a turn does with a clause behind it -/
def BoC (M : Model) (A : Around) (env : Env) (E : Expr) (k : Nat) (D : Value) (src : Expr) : (Shared → Prop) → Shared → Prop := fun Q z =>
  wpAny M A (eval src env) (fun x z1 => wpAny M A (pyIter x) (fun it z2 => codeAny M A (.compStart E k it D env) (fun r z3 => match r with
    | .ok _ => Q z3
    | .error _ => False) z2) FF z1) FF z
/-- what a turn of the last clause does -/
def BoL (M : Model) (A : Around) (env : Env) (D : Value) (elt : Expr) : (Shared → Prop) → Shared → Prop := fun Q z =>
  wpAny M A (eval elt env) (fun x z1 => wpAny M A (call (.builtin "list.append") [D, x]) (fun _ z2 => Q z2) FF z1) FF z
theorem nox {α : Type} {M : Model} {A : Around} {t : Sem α} {Q Q' : α → Shared → Prop} {E : Value → Shared → Prop} {z : Shared} (h : wpAny M A t Q FF z) (q : ∀ a y, Q a y → Q' a y) : wpAny M A t Q' E z := wpAny_mono h q fun _ _ f => False.elim f
section
variable {prog : Program} {w : World} {A : Around} {env : Env} {elt t0 i0 t1 i1 t2 i2 : Expr} {f0 f1 f2 : List Expr} {scope : Scope} {pos : Pos} {D : Value}
abbrev c3 (elt t0 i0 t1 i1 t2 i2 : Expr) (f0 f1 f2 : List Expr) (scope : Scope) (pos : Pos) : Expr := .ListComp elt [⟨t0, i0, f0, 0⟩, ⟨t1, i1, f1, 0⟩, ⟨t2, i2, f2, 0⟩] scope pos
/-- a turn with a clause behind it, as a tree -/
def midT (E : Expr) (k : Nat) (tg src nxt : Expr) (ifs : List Expr) (it D : Value) (env : Env) : Sem Fin := do
  standAt src.pos
  match ← pyNext it with
  | none => pure (.done .next)
  | some v =>
    letOwnedTupleGo tg it v
    assign tg env v
    let mut go := true
    for c in ifs do
      if go then go ← isTrue c env (eval c env)
    if go then
      let y ← eval nxt env
      standAt nxt.pos
      let y ← foldedSetIterable nxt env y
      let _ ← runOwn (.compStart E (k + 1) (← holding [y] (pyIter y)) D env) env
    again (.compLoop E k it D env)
/-- the last clause's -/
def lastT (E : Expr) (k : Nat) (tg src elt : Expr) (ifs : List Expr) (it D : Value) (env : Env) : Sem Fin := do
  standAt src.pos
  match ← pyNext it with
  | none => pure (.done .next)
  | some v =>
    letOwnedTupleGo tg it v
    assign tg env v
    let mut go := true
    for c in ifs do
      if go then go ← isTrue c env (eval c env)
    if go then
      (do let _ ← call (.builtin "list.append") [D, ← eval elt env])
    again (.compLoop E k it D env)
theorem turns_mid {E : Expr} {k : Nat} {tg src nxt : Expr} {ifs : List Expr} (he : ∀ it, compTurn E k it D env = midT E k tg src nxt ifs it D env) (hd : ∀ it, (model prog w).den (.compLoop E k it D env) = (compTurn E k it D env).onRaise (fun x => do noteFrame x env; theTreesLotGoes x)) (hs : ∀ x, foldedSetIterable nxt env x = pure x) (hq : ∀ it, (Code.compLoop E k it D env).quiet = true) (hu : ∀ it, A.under (.compLoop E k it D env) = A) :
    Turns (model prog w) A env E k D tg ifs (BoC (model prog w) A env E (k + 1) D nxt) := fun it R J turn n z h => by
  refine codeAny_loop (hq it) J (fun n z hJ => ?_) n h
  rw [hu it, hd it]
  refine wpAny_noted ?_
  rw [he it]
  refine wpAny_bind (wpAny_standAt (wpAny_bind (nox (turn n z hJ) fun r z1 g1 => ?_)))
  cases r with
  | none => exact wpAny_pure g1
  | some v =>
    refine wpAny_bind (nox g1 fun _ z2 g2 => wpAny_bind (nox g2 fun _ z3 g3 => wpAny_bind (nox g3 fun b z4 g4 => ?_)))
    cases b with
    | false => exact wpAny_pure ⟨rfl, g4⟩
    | true =>
      refine wpAny_bind (nox g4 fun x z5 g5 => wpAny_bind (wpAny_standAt (wpAny_bind (wpAny_of_eq (hs x) (wpAny_bind (wpAny_holding (nox g5 fun i z6 g6 => ?_)))))))
      refine wpAny_bind (wpAny_runOwn ?_)
      rw [Around.mark_none]
      refine codeAny_mono g6 fun r z7 hr => ?_
      cases r with
      | ok f =>
        first
          | exact wpAny_pure ⟨rfl, hr⟩
          | exact wpAny_bind (wpAny_pure (wpAny_pure ⟨rfl, hr⟩))
      | error e => exact hr.elim
theorem turns_last {E : Expr} {k : Nat} {tg src elt : Expr} {ifs : List Expr} (he : ∀ it, compTurn E k it D env = lastT E k tg src elt ifs it D env) (hd : ∀ it, (model prog w).den (.compLoop E k it D env) = (compTurn E k it D env).onRaise (fun x => do noteFrame x env; theTreesLotGoes x)) (hq : ∀ it, (Code.compLoop E k it D env).quiet = true) (hu : ∀ it, A.under (.compLoop E k it D env) = A) :
    Turns (model prog w) A env E k D tg ifs (BoL (model prog w) A env D elt) := fun it R J turn n z h => by
  refine codeAny_loop (hq it) J (fun n z hJ => ?_) n h
  rw [hu it, hd it]
  refine wpAny_noted ?_
  rw [he it]
  refine wpAny_bind (wpAny_standAt (wpAny_bind (nox (turn n z hJ) fun r z1 g1 => ?_)))
  cases r with
  | none => exact wpAny_pure g1
  | some v =>
    refine wpAny_bind (nox g1 fun _ z2 g2 => wpAny_bind (nox g2 fun _ z3 g3 => wpAny_bind (nox g3 fun b z4 g4 => ?_)))
    cases b with
    | false => exact wpAny_pure ⟨rfl, g4⟩
    | true => exact wpAny_bind (wpAny_bind (nox g4 fun x z5 g5 => wpAny_bind (nox g5 fun _ z6 g6 => wpAny_pure (wpAny_pure ⟨rfl, g6⟩))))
theorem turns0 (hs : ∀ x, foldedSetIterable i1 env x = pure x) : Turns (model prog w) A env (c3 elt t0 i0 t1 i1 t2 i2 f0 f1 f2 scope pos) 0 D t0 f0 (BoC (model prog w) A env (c3 elt t0 i0 t1 i1 t2 i2 f0 f1 f2 scope pos) 1 D i1) := turns_mid (src := i0) (fun _ => rfl) (fun _ => rfl) hs (fun _ => rfl) (fun _ => rfl)
theorem turns1 (hs : ∀ x, foldedSetIterable i2 env x = pure x) : Turns (model prog w) A env (c3 elt t0 i0 t1 i1 t2 i2 f0 f1 f2 scope pos) 1 D t1 f1 (BoC (model prog w) A env (c3 elt t0 i0 t1 i1 t2 i2 f0 f1 f2 scope pos) 2 D i2) := turns_mid (src := i1) (fun _ => rfl) (fun _ => rfl) hs (fun _ => rfl) (fun _ => rfl)
theorem turns2 : Turns (model prog w) A env (c3 elt t0 i0 t1 i1 t2 i2 f0 f1 f2 scope pos) 2 D t2 f2 (BoL (model prog w) A env D elt) := turns_last (src := i2) (fun _ => rfl) (fun _ => rfl) (fun _ => rfl) (fun _ => rfl)
/-- a clause's start, behind the first -/
def Starts (M : Model) (A : Around) (env : Env) (E : Expr) (k : Nat) (D : Value) : Prop := ∀ (it : Value) (R : Result → Shared → Prop) (z : Shared), codeAny M A (.compLoop E k it D env) R z →
  wpAny M A (pyIter it) (fun it' z' => codeAny M A (.compLoop E k it' D env) R z') (notedBy M A env fun x s' => R (.error x) s') z → codeAny M A (.compStart E k it D env) R z
theorem starts1 : Starts (model prog w) A env (c3 elt t0 i0 t1 i1 t2 i2 f0 f1 f2 scope pos) 1 D := fun it R z h0 h => by
  refine codeAny_of_tree ?_
  show wpAny _ _ ((compStart (c3 elt t0 i0 t1 i1 t2 i2 f0 f1 f2 scope pos) 1 it D env).onRaise (fun x => do noteFrame x env; standAt theWindowsPlace)) _ _ z
  refine wpAny_notedAt ?_
  unfold compStart
  show wpAny _ _ (ask >>= _) _ _ z
  refine wpAny_bind (wpAny_askSetting (wpAny_ite ?_))
  split
  · first
      | exact wpAny_bind (wpAny_pure (wpAny_pure (And.intro rfl h0)))
      | exact wpAny_pure (And.intro rfl h0)
  · refine wpAny_bind (wpAny_rule ?_)
    first
      | exact wpAny_bind (wpAny_standAt (wpAny_bind (thn h fun it' z' h' => wpAny_pure (And.intro rfl h'))))
      | (show wpAny _ _ (standAt i1.pos >>= _) _ _ z; exact wpAny_bind (wpAny_standAt (wpAny_bind (thn h fun it' z' h' => wpAny_pure (And.intro rfl h')))))
theorem starts2 : Starts (model prog w) A env (c3 elt t0 i0 t1 i1 t2 i2 f0 f1 f2 scope pos) 2 D := fun it R z h0 h => by
  refine codeAny_of_tree ?_
  show wpAny _ _ ((compStart (c3 elt t0 i0 t1 i1 t2 i2 f0 f1 f2 scope pos) 2 it D env).onRaise (fun x => do noteFrame x env; standAt theWindowsPlace)) _ _ z
  refine wpAny_notedAt ?_
  unfold compStart
  show wpAny _ _ (ask >>= _) _ _ z
  refine wpAny_bind (wpAny_askSetting (wpAny_ite ?_))
  split
  · first
      | exact wpAny_bind (wpAny_pure (wpAny_pure (And.intro rfl h0)))
      | exact wpAny_pure (And.intro rfl h0)
  · refine wpAny_bind (wpAny_rule ?_)
    first
      | exact wpAny_bind (wpAny_standAt (wpAny_bind (thn h fun it' z' h' => wpAny_pure (And.intro rfl h'))))
      | (show wpAny _ _ (standAt i2.pos >>= _) _ _ z; exact wpAny_bind (wpAny_standAt (wpAny_bind (thn h fun it' z' h' => wpAny_pure (And.intro rfl h')))))
end
section
variable {X : Cx} {s0 : Shared} {H0 : Hp} {scope : Scope} {ce : Env} {fp : List Addr}
/-- the part of a reading from a clause on: Nx is what stands behind it -/
abbrev CW : Type := (Hp → Prop) → L2.St → Hp → Prop
def tK (wi : TI) (g : TG) (tt : TT) (bd : CW) (vs : List Nat) : CW := fun Nx σ H => wi σ H fun J H1 => ∃ U : Nat → Nat → Hp → Prop, (∃ m, U 0 m H1) ∧ ∀ j k H, U j k H →
  (J.stop j H ∧ Nx H) ∨ (J.go j H ∧ ∃ N1 : Hp → Prop, (∀ H', N1 H' → ∃ k', k' < k ∧ U (j + 1) k' H') ∧ ∀ x H', J.yld j H x H' → g x (wipe σ vs) H' fun σ2 H2 => wipe σ2 vs = wipe σ vs ∧ tt σ2 H2 fun b H3 => if b = true then bd N1 σ2 H3 else N1 H3)
def tKe (te : TE) (D : Addr) : CW := fun Nx σ H => te σ H fun y H1 => ∃ acc, H1 D = some (.lst acc) ∧ acc.length < sizeLine ∧ Nx (upd H1 D (.lst (acc ++ [y])))
/-- a turn's body keeps what the block knows but for vs -/
structure PB (Y : Cx) (Bo : (Shared → Prop) → Shared → Prop) (vs : List Nat) (bd : CW) : Prop where
  mono : ∀ {Q Q' : Shared → Prop} {z : Shared}, Bo Q z → (∀ y, Q y → Q' y) → Bo Q' z
  run : ∀ pins z σ H N, Inv Y pins σ H z → bd N σ H → Bo (fun y => ∃ H', Inv Y pins (wipe σ vs) H' y ∧ N H') z
theorem pb_last {elt : Expr} {te : TE} {D : Addr} (he : PE (X.blk s0 H0 scope ce fp) elt te) : PB (X.blk s0 H0 scope ce fp) (BoL (model X.prog X.w) X.A ce (.ref D) elt) [] (tKe te D) where
  mono := fun h q => nox h fun _ _ h1 => nox h1 fun _ y h2 => q y h2
  run := fun pins z σ H N I h => nox (he.run pins z σ H _ I h) fun v y ⟨yv, H1, I1, r1, acc, hD, hz, nx⟩ => app_ok (X := X.blk s0 H0 scope ce fp) I1 hD hz r1 fun y2 I2 => ⟨_, I2, nx⟩
theorem wipe_sub {σ : L2.St} {vs ws : List Nat} (h : ∀ i ∈ ws, i ∈ vs) (j : Nat) (v : V) (e : (wipe σ vs)[j]? = some (some v)) : (wipe σ ws)[j]? = some (some v) := by
  obtain ⟨e1, e2⟩ := wipe_some e
  rw [wipe_out fun z => e2 (h j z)]
  exact e1
theorem loop_tK (hc : X.calm = true) {E : Expr} {k : Nat} {D : Value} {tg src : Expr} {ifs : List Expr} {Bo : (Shared → Prop) → Shared → Prop} {vs ws : List Nat} {bd : CW} {wi : TI} {g : TG} {tt : TT} (tn : Turns (model X.prog X.w) X.A ce E k D tg ifs Bo) (st : Starts (model X.prog X.w) X.A ce E k D) (hw : ∀ i ∈ ws, i ∈ vs)
    (hi : PI (X.blk s0 H0 scope ce fp) tg src wi) (hg : PG (X.blk s0 H0 scope ce fp) tg g) (ht : PTs (X.blk s0 H0 scope ce fp) ifs tt) (pb : PB (X.blk s0 H0 scope ce fp) Bo ws bd) : PB (X.blk s0 H0 scope ce fp) (BoC (model X.prog X.w) X.A ce E k D src) vs (tK wi g tt bd vs) where
  mono := fun h q => nox h fun _ _ h1 => nox h1 fun _ _ h2 => codeAny_mono h2 fun r y hr => match r, hr with
    | .ok _, hr => q y hr
  run := fun pins z σ H N I h => by
    refine nox (hi.run pins z σ H _ I h) fun v z1 hx => nox hx fun itv z2 h2 => ?_
    obtain ⟨it, fq, tq, J, H2, e, I2, T, st2, f2, U, ⟨m1, w1⟩, turn⟩ := h2
    subst e
    have stat : ∀ {H' : Hp}, (∀ b ∈ fq, H' b = none) → ∀ b ∈ fq, FpOk (X.blk s0 H0 scope ce fp) pins H' b := fun hn b hb => ⟨hn b hb, (f2 b hb).2⟩
    have loop : codeAny (model X.prog X.w) X.A (.compLoop E k (.ref it) D ce) (fun r y => match r with
        | .ok _ => ∃ H', Inv (X.blk s0 H0 scope ce fp) pins (wipe σ vs) H' y ∧ N H'
        | .error _ => False) z2 := by
      refine tn (.ref it) _ (fun n y => ∃ j H', Inv (X.blk s0 H0 scope ce fp) pins (wipe σ vs) H' y ∧ tq j y.heap ∧ (∀ b ∈ fq, H' b = none) ∧ U j n H') ?_ m1 _ ⟨0, H2, I2.weak (wipe_length _ _) (fun j v e => (wipe_some e).1), st2, fun b hb => (f2 b hb).1, w1⟩
      rintro n z3 ⟨j, H3, I3, st3, n3, w3⟩
      rcases turn j n H3 w3 with ⟨stop, nx⟩ | ⟨go, N1, hN1, step⟩
      · refine nox (T.done (X.blk s0 H0 scope ce fp) rfl rfl rfl hc j _ z3 (wipe σ vs) H3 FF I3 (stat n3) st3 stop) fun r z4 ⟨hr, I4⟩ => ?_
        subst hr
        exact ⟨_, I4, nx⟩
      · refine nox (T.item (X.blk s0 H0 scope ce fp) rfl rfl rfl hc j _ z3 (wipe σ vs) H3 FF I3 (stat n3) st3 go) fun r z4 ⟨u, hr, h4⟩ => ?_
        subst hr
        refine nox h4 fun _ z5 ⟨x, H5, I5, r5, y5, st5, n5⟩ => ?_
        have I5' := I5.pinned (stat n5) (T.obj _ _ st5)
        refine nox (hg.run _ z5 (wipe σ vs) H5 x u _ I5' r5 (step x H5 y5)) fun _ z6 ⟨σ6, H6, I6, hw6, q6⟩ => ?_
        refine nox (ht.run _ z6 σ6 H6 _ I6 q6) fun b z7 ⟨H7, I7, q7⟩ => ?_
        have fin : ∀ {τ : L2.St} {y : Shared} {H' : Hp}, Inv (X.blk s0 H0 scope ce fp) (pins ++ pinsAt fq z5.heap) τ H' y → (wipe σ vs).length = τ.length → (∀ (j : Nat) v, (wipe σ vs)[j]? = some (some v) → τ[j]? = some (some v)) → N1 H' →
            ∃ m, m < n ∧ ∃ j H', Inv (X.blk s0 H0 scope ce fp) pins (wipe σ vs) H' y ∧ tq j y.heap ∧ (∀ b ∈ fq, H' b = none) ∧ U j m H' := fun {τ y H'} I' hl hk nx => by
          obtain ⟨m', hm, w'⟩ := hN1 H' nx
          have pin' : ∀ b ∈ fq, ∀ o, z5.heap.get? b = some o → y.heap.get? b = some o ∧ H' b = none := fun b hb o e =>
            have z := I'.pin (b, o) (List.mem_append_right _ (List.mem_append_right _ (mem_pinsAt hb e)))
            ⟨z.1, z.2.1⟩
          refine ⟨m', hm, j + 1, H', I'.unpinned.weak hl hk, T.keep _ _ _ st5 fun b hb o e => (pin' b hb o e).1, fun b hb => ?_, w'⟩
          obtain ⟨o, e, _⟩ := T.obj _ _ st5 b hb
          exact (pin' b hb o e).2
        have l6 : (wipe σ vs).length = σ6.length := by rw [← hw6, wipe_length]
        cases b with
        | false => exact fin I7 l6 (fun j v e => by rw [← hw6] at e; exact (wipe_some e).1) q7
        | true =>
          refine pb.mono (pb.run _ z7 σ6 H7 _ I7 q7) fun y ⟨H', I', nx⟩ => fin I' (l6.trans (wipe_length σ6 ws).symm) (fun j v e => ?_) nx
          rw [← hw6] at e
          exact wipe_sub hw j v e
    exact st (.ref it) _ z2 loop (T.self X.A 0 _ _ _ st2 loop)
end
section
variable {X : Cx}
/-- [elt for t0 in i0 if .. for t1 in i1 if .. for t2 in i2 if ..] -/
def tLc3 (wi : TI) (g : TG) (tt : TT) (vs : List Nat) (bd : Addr → CW) : TE := fun σ H Q => wi σ H fun J H1 => ∀ D, H1 D = none → ∃ U : Nat → Nat → Hp → Prop, (∃ m, U 0 m (upd H1 D (.lst []))) ∧ ∀ i m H, U i m H →
  (J.stop i H ∧ Q (.ref D) H) ∨ (J.go i H ∧ ∃ N : Hp → Prop, (∀ H', N H' → ∃ m', m' < m ∧ U (i + 1) m' H') ∧ ∀ x H', J.yld i H x H' → g x (wipe σ vs) H' fun σ2 H2 => wipe σ2 vs = wipe σ vs ∧ tt σ2 H2 fun b H3 => if b = true then bd D N σ2 H3 else N H3)
theorem pe_lc3 {elt t0 i0 t1 i1 t2 i2 : Expr} {f0 f1 f2 : List Expr} {scope : Scope} {pos : Pos} {own : List (Str × Nat)} {vs1 vs2 : List Nat} {wi wi1 wi2 : TI} {g g1 g2 : TG} {tt tt1 tt2 : TT} {te : TE} (hc : X.calm = true) (hN : X.N.Nodup) (hi : PI X t0 i0 wi) (ok : BlkOk X.N X.env.scope scope own)
    (h1 : ∀ i ∈ vs1, i ∈ own.map (·.2)) (h2 : ∀ i ∈ vs2, i ∈ vs1)
    (K : ∀ (z : Shared) (H : Hp) (C : Addr) (cl : List (Str × Addr)) (fp : List Addr), (PG (X.blk z H scope (compEnvC scope cl C X.env) fp) t0 g ∧ PTs (X.blk z H scope (compEnvC scope cl C X.env) fp) f0 tt) ∧ (PI (X.blk z H scope (compEnvC scope cl C X.env) fp) t1 i1 wi1 ∧ PG (X.blk z H scope (compEnvC scope cl C X.env) fp) t1 g1 ∧ PTs (X.blk z H scope (compEnvC scope cl C X.env) fp) f1 tt1) ∧
      (PI (X.blk z H scope (compEnvC scope cl C X.env) fp) t2 i2 wi2 ∧ PG (X.blk z H scope (compEnvC scope cl C X.env) fp) t2 g2 ∧ PTs (X.blk z H scope (compEnvC scope cl C X.env) fp) f2 tt2) ∧ PE (X.blk z H scope (compEnvC scope cl C X.env) fp) elt te)
    (s0 : ∀ x, foldedSetIterable i0 X.env x = pure x := by intro _; rfl) (s1 : ∀ e x, foldedSetIterable i1 e x = pure x := by intro _ _; rfl) (s2 : ∀ e x, foldedSetIterable i2 e x = pure x := by intro _ _; rfl) :
    PE X (c3 elt t0 i0 t1 i1 t2 i2 f0 f1 f2 scope pos) (tLc3 wi g tt (own.map (·.2)) fun D => tK wi1 g1 tt1 (tK wi2 g2 tt2 (tKe te D) vs2) vs1) := by
  refine ⟨fun pins z σ H Q I h => ?_⟩
  rw [eval_ListComp]
  have hfree : ∀ y ∈ scope.names, y.2 = .free → ∃ c, X.env.cells.lookup y.1 = some c := fun y hy e => (ok.free y hy e).elim (fun k => I.ok.has _ (.inl k)) fun k => I.ok.has _ (.inr k)
  refine wpAny_comprehension_free (use := none) rfl s0 (closure_ok hfree) ok.kind (fun y hy e => by rw [ok.uniq y hy, e]) (thn (hi.run pins z σ H _ I h) fun xv z1 hx => thn hx fun itv z2 k2 => ?_)
  obtain ⟨it, fp, tn, J, H2, e, I2, T, st2, f2', q⟩ := k2
  subst e
  refine wpAny_newObj_type (newEnv_comp ?_) (by show 0 ≤ sizeLine; decide)
  obtain ⟨U, ⟨m0, w0⟩, turn⟩ := q z2.heap.objs.size (I2.hok.fresh (Nat.le_refl _))
  generalize eD : z2.heap.objs.size = D at w0 turn
  generalize e3 : ({ z2 with heap := z2.heap.push { cls := .type "list", data := .seq ([] : List Value).toArray } } : Shared) = z3
  have I3 : Inv X pins σ (upd H2 D (.lst [])) z3 := by
    rw [← e3]
    refine I2.laid (t' := z2.toks) (fun b o e => Heap.get?_push_of_some _ e) (Nat.le_of_eq eD) ⟨Nat.zero_le _, [], 0, .nil, ?_⟩
    rw [← eD]
    exact Heap.get?_push_size _ rfl
  have k3 : z3.heap = z2.heap.push { cls := .type "list", data := .seq ([] : List Value).toArray } := by rw [← e3]
  have f3 : ∀ b ∈ fp, FpOk X pins (upd H2 D (.lst [])) b ∧ b < z3.heap.objs.size := fun b hb => by
    obtain ⟨o, e, _⟩ := T.obj _ _ st2 b hb
    have lt := Heap.lt_size e
    refine ⟨⟨?_, (f2' b hb).2⟩, by rw [k3, Heap.size_push]; exact Nat.lt_succ_of_lt lt⟩
    rw [upd_ne (by rw [← eD]; exact Nat.ne_of_lt lt)]
    exact (f2' b hb).1
  have st3 : tn 0 z3.heap := T.keep _ _ _ st2 fun b _ o e => by rw [k3]; exact Heap.get?_push_of_some _ e
  have I4 := block_start I3 ok hN f3
  have KK := K z3 (upd H2 D (.lst [])) z3.heap.objs.size (cellsFrom (z3.heap.objs.size + 1) scope.names (cloFrom X.env.cells scope.names [])) fp
  show codeAny _ _ (.compStart (c3 elt t0 i0 t1 i1 t2 i2 f0 f1 f2 scope pos) 0 (.ref it) (.ref D) (compEnvC scope (cellsFrom (z3.heap.objs.size + 1) scope.names (cloFrom X.env.cells scope.names [])) z3.heap.objs.size X.env)) (compPost (model X.prog X.w) X.A X.xe none _ (.ref D) z3.heap.objs.size) { z3 with heap := pushCells (z3.heap.push { cls := .type "dict", data := .dict #[] }) scope.names }
  have nfp : ∀ b ∈ fp, (upd H2 D (.lst [])) b = none := fun b hb => (f3 b hb).1.1
  generalize ee : compEnvC scope (cellsFrom (z3.heap.objs.size + 1) scope.names (cloFrom X.env.cells scope.names [])) z3.heap.objs.size X.env = ce at I4 KK ⊢
  have cL : ce.locals = z3.heap.objs.size := by rw [← ee]; rfl
  obtain ⟨⟨pg, pt⟩, ⟨pi1, pg1, pt1⟩, ⟨pi2, pg2, pt2⟩, pe⟩ := KK
  generalize eH : upd H2 D (.lst []) = H3 at I3 I4 pg pt pi1 pg1 pt1 pi2 pg2 pt2 pe w0 nfp f3
  generalize e4 : ({ z3 with heap := pushCells (z3.heap.push { cls := .type "dict", data := .dict #[] }) scope.names } : Shared) = z4 at I4 ⊢
  have st4 : tn 0 z4.heap := T.keep _ _ _ st3 fun b _ o e => by rw [← e4]; exact pushCells_keeps _ _ _ _ (Heap.get?_push_of_some _ e)
  have stat : ∀ {τ : L2.St} {H' : Hp} {y : Shared}, Inv (X.blk z3 H3 scope ce fp) [] τ H' y → (∀ b ∈ fp, H' b = none) → ∀ b ∈ fp, FpOk (X.blk z3 H3 scope ce fp) [] H' b := fun I' hn b hb =>
    ⟨hn b hb, (I'.ok.exf b hb).1, I'.ok.exfs b hb, .inl hb, fun x c e => (I'.ok.exf b hb).2 x c e, fun p hp => absurd (show p ∈ ([] : List (Addr × Obj)) ++ [] from hp) (by simp)⟩
  have pb2 := loop_tK hc (D := .ref D) (turns2 (elt := elt) (i0 := i0) (t0 := t0) (f0 := f0) (i1 := i1) (t1 := t1) (f1 := f1) (t2 := t2) (i2 := i2) (f2 := f2) (scope := scope) (pos := pos)) starts2 (vs := vs2) (fun _ z => absurd z List.not_mem_nil) pi2 pg2 pt2 (pb_last (D := D) pe)
  have pb1 := loop_tK hc (D := .ref D) (turns1 (elt := elt) (i0 := i0) (t0 := t0) (f0 := f0) (i1 := i1) (t1 := t1) (f1 := f1) (t2 := t2) (i2 := i2) (f2 := f2) (scope := scope) (pos := pos) (s2 ce)) starts1 (vs := vs1) h2 pi1 pg1 pt1 pb2
  have loop : codeAny (model X.prog X.w) X.A (.compLoop (c3 elt t0 i0 t1 i1 t2 i2 f0 f1 f2 scope pos) 0 (.ref it) (.ref D) ce) (compPost (model X.prog X.w) X.A X.xe none (fun v y => ∃ v1 H', Inv X pins σ H' y ∧ RelV v1 v ∧ Q v1 H') (.ref D) z3.heap.objs.size) z4 := by
    refine turns0 (s1 ce) (.ref it) _ (fun n y => ∃ i H', Inv (X.blk z3 H3 scope ce fp) [] (wipe σ (own.map (·.2))) H' y ∧ tn i y.heap ∧ (∀ b ∈ fp, H' b = none) ∧ U i n H') ?_ m0 _ ⟨0, H3, I4, st4, nfp, w0⟩
    rintro n z5 ⟨i, H5, I5, st5, n5, w5⟩
    rcases turn i n H5 w5 with ⟨stop, qq⟩ | ⟨go, N, hN, step⟩
    · refine nox (T.done (X.blk z3 H3 scope ce fp) rfl rfl rfl hc i [] z5 _ H5 FF I5 (stat I5 n5) st5 stop) fun r z6 ⟨hr, I6⟩ => ?_
      subst hr
      have I7 : Inv X pins σ H5 z6 := I3.call' (ch := fp) I6.os I6.base I6.hok I6.bare fun b hb => ⟨(f3 b hb).1.2.2.2.1, (f3 b hb).1.2.1, (f3 b hb).1.2.2.2.2.1, (f3 b hb).1.2.2.2.2.2⟩
      have nC : H5 z3.heap.objs.size = none := by
        have z : H5 ce.locals = none := I6.free
        rw [cL] at z
        exact z
      obtain ⟨m, hn, _⟩ := I6.loc
      have hn : z6.heap.Ns ce.locals m := hn
      rw [cL] at hn
      refine ⟨m, hn, fun h' sb => ?_⟩
      obtain ⟨p0, p1, p2, p3, p4, p5⟩ := I3.fpOk (Nat.le_refl _) nC
      exact ⟨.ref D, H5, I7.turned (t' := z6.toks) (fun b o hb e => (sb.2 b hb).trans e) p0 p1 p3 p4 p5, rfl, qq⟩
    · refine nox (T.item (X.blk z3 H3 scope ce fp) rfl rfl rfl hc i [] z5 _ H5 FF I5 (stat I5 n5) st5 go) fun r z6 ⟨u, hr, h6⟩ => ?_
      subst hr
      refine nox h6 fun _ z7 ⟨x, H7, I7, r7, y7, st7, n7⟩ => ?_
      have I7' := I7.pinned (stat I7 n7) (T.obj _ _ st7)
      refine nox (pg.run _ z7 _ H7 x u _ I7' r7 (step x H7 y7)) fun _ z8 ⟨σ8, H8, I8, hw8, q8⟩ => ?_
      refine nox (pt.run _ z8 σ8 H8 _ I8 q8) fun b z9 ⟨H9, I9, q9⟩ => ?_
      have fin : ∀ {τ : L2.St} {y : Shared} {H' : Hp}, Inv (X.blk z3 H3 scope ce fp) ([] ++ pinsAt fp z7.heap) τ H' y → (wipe σ (own.map (·.2))).length = τ.length → (∀ (j : Nat) v, (wipe σ (own.map (·.2)))[j]? = some (some v) → τ[j]? = some (some v)) → N H' →
          ∃ m, m < n ∧ ∃ i H', Inv (X.blk z3 H3 scope ce fp) [] (wipe σ (own.map (·.2))) H' y ∧ tn i y.heap ∧ (∀ b ∈ fp, H' b = none) ∧ U i m H' := fun {τ y H'} I' hl hk nx => by
        obtain ⟨m', hm, w'⟩ := hN H' nx
        have pin' : ∀ b ∈ fp, ∀ o, z7.heap.get? b = some o → y.heap.get? b = some o ∧ H' b = none := fun b hb o e =>
          have z := I'.pin (b, o) (List.mem_append_right _ (List.mem_append_right _ (mem_pinsAt hb e)))
          ⟨z.1, z.2.1⟩
        refine ⟨m', hm, i + 1, H', (I'.unpinned (pins := [])).weak hl hk, T.keep _ _ _ st7 fun b hb o e => (pin' b hb o e).1, fun b hb => ?_, w'⟩
        obtain ⟨o, e, _⟩ := T.obj _ _ st7 b hb
        exact (pin' b hb o e).2
      have l8 : (wipe σ (own.map (·.2))).length = σ8.length := by rw [← hw8, wipe_length]
      cases b with
      | false => exact fin I9 l8 (fun j v e => by rw [← hw8] at e; exact (wipe_some e).1) q9
      | true =>
        refine pb1.mono (pb1.run _ z9 σ8 H9 _ I9 q9) fun y ⟨H', I', nx⟩ => fin I' (l8.trans (wipe_length σ8 vs1).symm) (fun j v e => ?_) nx
        rw [← hw8] at e
        exact wipe_sub h1 j v e
  exact codeAny_compStart_list loop (T.self X.A 0 _ _ _ st4 loop)
end
/-- turns of a walk, whatever a turn is -/
theorem u_it {J : It} {n : Nat} {G : Hp → Prop} {Y : Nat → Hp → V → Hp → Prop} (w : Walk J n G Y) {S : (Hp → Prop) → V → Hp → Prop} {H1 : Hp} {Qd : Hp → Prop} (Pv : Nat → Hp → Prop) (h0 : Pv 0 H1) (hG : ∀ i H, Pv i H → G H) (step : ∀ i x H H', i < n → Pv i H → Y i H x H' → S (Pv (i + 1)) x H')
    (hd : ∀ H, Pv n H → Qd H) :
    ∃ U : Nat → Nat → Hp → Prop, (∃ m, U 0 m H1) ∧ ∀ i m H, U i m H → (J.stop i H ∧ Qd H) ∨ (J.go i H ∧ ∃ N : Hp → Prop, (∀ H', N H' → ∃ m', m' < m ∧ U (i + 1) m' H') ∧ ∀ x H', J.yld i H x H' → S N x H') := by
  refine ⟨fun i m H => i + m = n ∧ Pv i H, ⟨n, Nat.zero_add n, h0⟩, fun i m H ⟨hm, p⟩ => ?_⟩
  by_cases hi : i < n
  · exact .inr ⟨w.goes i H hi (hG i H p), Pv (i + 1), fun H' q => ⟨m - 1, by omega, by omega, q⟩, fun x H' y => step i x H H' hi p (w.yields i H x H' hi (hG i H p) y)⟩
  · obtain rfl : i = n := by omega
    exact .inl ⟨w.stops H (hG i H p), hd H p⟩
end Cm
set_option Elab.async false
set_option linter.all false
set_option maxRecDepth 100000
set_option maxHeartbeats 4000000
namespace My
open PySem PySem.Spec PyProof.Rows L2 Evl Cm
def top (i : Nat) : Stmt := PySem.Challenge.pw_swappedhot_k01_rules.main.body.getD i (.Pass ⟨0, 0, 0, 0⟩)
structure Txt (K : PySem.W.Frag) (mg : Str → Option Value) : Prop where
  b_len : mg "len" = none
  b_abs : mg "abs" = none
  b_int : mg "int" = none
  b_isinstance : mg "isinstance" = none
  b_tuple : mg "tuple" = none
  b_list : mg "list" = none
  b_dict : mg "dict" = none
  b_str : mg "str" = none
  b_bool : mg "bool" = none
  b_all : mg "all" = none
  b_range : mg "range" = none
  b_zip : mg "zip" = none
  b_ValueError : mg "ValueError" = none
section
variable {P : Program} {w : World} {K : PySem.W.Frag} {mg : Str → Option Value} {base : Heap}

/-! ### the law's pool -/
abbrev s__law_pool : Stmt := top 13
abbrev N__law_pool : List Str := ["_law_script", "_law_cells", "_law_great", "_law_small", "_law_cell"]
theorem sc__law_pool : FnScope N__law_pool ["_law_script"] (defScope s__law_pool) := ⟨rfl, rfl, rfl, by decide +kernel, rfl, by decide +kernel, by decide +kernel⟩
def spPool (K : PySem.W.Frag) : Sp := fun vs H Q _ => ∃ (a : Addr) (ns : List Int), vs = [.ref a] ∧ SqL K H a (ns.map V.int) ∧ ns.length ≤ 63 ∧ ∀ p H', Ex H H' → H p = none → PoolAt (fun a => H a ≠ none) H' p → Q (.ref p) H'
theorem ok_pool (T : Txt K mg) {f : Addr} {fd : FuncData} (F : Fun K "_law_pool" "_law_pool" s__law_pool f fd) : FnOk P w K mg base CX0 1 f fd ["_law_script"] (spPool K) := by
  refine F.ok sc__law_pool (fun vs H Q E h => ?_) (fun cdv A outer s H vs Q E hr h => ?_)
  · obtain ⟨a, ns, rfl, _⟩ := h
    rfl
  obtain ⟨a, ns, rfl, hS, hl, k⟩ := h
  refine ⟨_, (pss_cons (ps_setLc (i := 1) (own := [("_law_cell", 4)]) (g := (gName 4)) (tt := tYes) rfl sc__law_pool.nd rfl rfl (sw_true rfl rfl rfl (by decide +kernel)) (pi_list (pe_slice sl_list (pv 0) po_none (po_some pe_int))) (blkOk_by (own := [("_law_cell", 4)]) (N := N__law_pool) (sc := defScope s__law_pool) (by decide +kernel)) (fun _ _ _ _ _ => (pg_name (i := 4) sc__law_pool.nd rfl (Or.inl rfl))) (fun _ _ _ _ _ => pts_nil) (fun _ _ _ _ _ => (pe_callTy call_int1 (by rfl) T.b_int (by decide +kernel) (pa_cons (pv 4) pa_nil))))
  (pss_cons (ps_setLc (i := 2) (own := [("_law_cell", 4)]) (g := (gName 4)) rfl sc__law_pool.nd rfl rfl (sw_true rfl rfl rfl (by decide +kernel)) (pi_list (pv 1)) (blkOk_by (own := [("_law_cell", 4)]) (N := N__law_pool) (sc := defScope s__law_pool) (by decide +kernel)) (fun _ _ _ _ _ => (pg_name (i := 4) sc__law_pool.nd rfl (Or.inl rfl))) (fun _ _ _ _ _ => (pts_one (pt_cmpR op_ge (pe_callB call_abs (by rfl) T.b_abs (by decide +kernel) (pa_cons (pv 4) pa_nil)) (pe_op op_pow pe_int pe_int) (nomark _)))) (fun _ _ _ _ _ => (pe_callB call_abs (by rfl) T.b_abs (by decide +kernel) (pa_cons (pv 4) pa_nil))))
  (pss_cons (ps_setLc (i := 3) (own := [("_law_cell", 4)]) (g := (gName 4)) rfl sc__law_pool.nd rfl rfl (sw_true rfl rfl rfl (by decide +kernel)) (pi_list (pv 1)) (blkOk_by (own := [("_law_cell", 4)]) (N := N__law_pool) (sc := defScope s__law_pool) (by decide +kernel)) (fun _ _ _ _ _ => (pg_name (i := 4) sc__law_pool.nd rfl (Or.inl rfl))) (fun _ _ _ _ _ => (pts_one (pt_cmpR op_lt (pe_callB call_abs (by rfl) T.b_abs (by decide +kernel) (pa_cons (pv 4) pa_nil)) (pe_op op_pow pe_int pe_int) (nomark _)))) (fun _ _ _ _ _ => (pe_op op_mod (pe_callTy call_int1 (by rfl) T.b_int (by decide +kernel) (pa_cons (pv 4) pa_nil)) pe_int)))
  (pss_one (ps_ret (pe_lst (pa_cons (pv 2) (pa_cons (pv 3) (pa_cons pe_int (pa_cons pe_int pa_nil)))))))))), ?_⟩
  obtain ⟨cs, ec, hcl⟩ := cut_ints ns none (some 63)
  have e18 : ∀ (H1 : Hp) (σ : L2.St), Ev (tOp (rI CPow fun i j => .int (i ^ j.toNat)) (tC (.int 10)) (tC (.int 18))) σ H1 (.int ((10 : Int) ^ (18 : Int).toNat)) := fun H1 σ =>
    ev_op ev_c ev_c (rv_I ⟨by decide, by decide, by decide⟩)
  have eabs : ∀ {H1 : Hp} {σ : L2.St} {x : Int}, σ[4]? = some (some (.int x)) → Ev (tCB (fun xs H Q => ∃ i, xs = [.int i] ∧ Q (.int (if i < 0 then -i else i)) H) (tCons (tVar 4) tNil)) σ H1 (.int (absI x)) := fun h =>
    ev_cb (ea_cons (ev_var h) ea_nil) fun H2 _ Q q => ⟨_, rfl, q H2 (Ex.refl H2)⟩
  have eint : ∀ {H1 : Hp} {σ : L2.St} {x : Int}, σ[4]? = some (some (.int x)) → Ev (tCB (fun xs H Q => (∃ i, xs = [.int i] ∧ Q (.int i) H) ∨ ∃ k, xs = [.bl k] ∧ Q (.int (if k then 1 else 0)) H) (tCons (tVar 4) tNil)) σ H1 (.int x) := fun h =>
    ev_cb (ea_cons (ev_var h) ea_nil) fun H2 _ Q q => .inl ⟨_, rfl, q H2 (Ex.refl H2)⟩
  refine q_asgL (xs := cs.map V.int) ?_ fun p1 H1 n1 e1 h1 => ?_
  · rw [show cs.map V.int = given (cutV (ns.map V.int) none (some 63)).length (fun _ => true) (fun i => V.int (cs.getD i 0)) by rw [ec, given_all]]
    refine el_lcNL (K := K) (j := 4) (vs := [4]) _ _ (el_sl (te := tVar 0) (ev_var rfl) eo_none (eo_some (i := 63) ev_c) hS) (by rw [ec, List.length_map]; omega) (fun _ => rfl) (fun i x H1 _ hx => fun H2 _ Q q => q H2 (Ex.refl H2)) (fun i x H1 _ hx _ => ?_)
    rw [ec] at hx
    rw [map_getD hx]
    exact eint rfl
  refine q_asgL (xs := given (cs.map V.int).length (fun i => decide ((10 : Int) ^ (18 : Int).toNat ≤ absI (cs.getD i 0))) (fun i => V.int (absI (cs.getD i 0)))) ?_ fun p2 H2 n2 e2 h2 => ?_
  · refine el_lcL (K := K) (j := 4) (vs := [4]) _ _ (ev_var (i := 1) rfl) (sq_of h1) (by rw [List.length_map]; omega) (fun _ => rfl) (fun i x H1 _ hx => ?_) (fun i x H1 _ hx _ => ?_)
    · rw [map_getD hx]
      exact et_test (ev_op (eabs rfl) (e18 _ _) rv_I0)
    · rw [map_getD hx]
      exact eabs rfl
  refine q_asgL (xs := given (cs.map V.int).length (fun i => decide (absI (cs.getD i 0) < (10 : Int) ^ (18 : Int).toNat)) (fun i => V.int (cs.getD i 0 % 1000003))) ?_ fun p3 H3 n3 e3 h3 => ?_
  · refine el_lcL (K := K) (j := 4) (vs := [4]) _ _ (ev_var (i := 1) rfl) (sq_of (e2 _ _ h1)) (by rw [List.length_map]; omega) (fun _ => rfl) (fun i x H1 _ hx => ?_) (fun i x H1 _ hx _ => ?_)
    · rw [map_getD hx]
      exact et_test (ev_op (eabs rfl) (e18 _ _) rv_I0)
    · rw [map_getD hx]
      exact ev_op (eint rfl) ev_c (rv_I (by show (0 : Int) < 1000003; decide))
  refine s_retL (el_lst (ea_cons (ev_var rfl) (ea_cons (ev_var rfl) (ea_cons ev_c (ea_cons ev_c ea_nil)))) (by show 4 ≤ 100000; decide)) fun p H4 n4 e4 h4 => ?_
  rw [given_ints] at h2 h3
  refine k p H4 (e1.trans (e2.trans (e3.trans e4))) (fresh_back (e1.trans (e2.trans e3)) n4) ⟨p2, p3, _, _, 0, 0, h4, e4 _ _ (e3 _ _ h2), e4 _ _ h3, fun x hx => ?_, fun x hx => ?_, Int.le_refl 0, Int.le_refl 0, fun z => z (fresh_back e1 n2), fun z => z (fresh_back (e1.trans e2) n3)⟩
  · obtain ⟨i, hi, rfl⟩ := given_mem hx
    have h := of_decide_eq_true hi
    exact Int.lt_of_lt_of_le (by decide) h
  · obtain ⟨i, hi, rfl⟩ := given_mem hx
    constructor
    · exact Int.emod_nonneg _ (by decide)
    · exact Int.emod_lt_of_pos _ (by decide)

abbrev s__law_draw : Stmt := top 14
abbrev N__law_draw : List Str := ["_law_pool_here", "_law_many", "_law_great", "_law_digit", "_law_seed", "_law_number"]
theorem sc__law_draw : FnScope N__law_draw ["_law_pool_here", "_law_many"] (defScope s__law_draw) := ⟨rfl, rfl, rfl, by decide +kernel, rfl, by decide +kernel, by decide +kernel⟩
def spDraw : Sp := fun vs H Q _ => ∃ (M : Addr → Prop) (p : Addr) (m : Int), vs = [.ref p, .int m] ∧ Live M H ∧ PoolAt M H p ∧ 0 < m ∧ m.natAbs.log2 < 9000 ∧ ∀ d H', 0 ≤ d → d < m → SmB p H H' → PoolAt M H' p → Q (.int d) H'
theorem ok_draw (T : Txt K mg) {f : Addr} {fd : FuncData} (F : Fun K "_law_draw" "_law_draw" s__law_draw f fd) : FnOk P w K mg base CX0 1 f fd ["_law_pool_here", "_law_many"] spDraw := by
  refine F.ok sc__law_draw (fun vs H Q E h => ?_) (fun cdv A outer s H vs Q E hr h => ?_)
  · obtain ⟨M, a, ns, rfl, _⟩ := h
    rfl
  obtain ⟨M, p, m, rfl, hM, hP, hm, hlog, k⟩ := h
  refine ⟨_, (pss_cut (ps_if (PW.pt (pw_and (pt_cmpR op_eq (pe_ix ix_list (pv 0) pe_int (fun _ _ => rfl)) pe_int (nomark _)) (pw_and1 (pt_cmpR op_gt (pe_callB call_len_seq (by rfl) T.b_len (by decide +kernel) (pa_cons (pe_ix ix_list (pv 0) pe_int (fun _ _ => rfl)) pa_nil)) pe_int (nomark _))))) (pss_cons (ps_set (i := 2) sc__law_draw.nd rfl (Or.inl rfl) (pe_ix ix_list (pv 0) pe_int (fun _ _ => rfl)))
  (pss_cons (ps_asg (pe_ix ix_list (pv 2) pe_int (fun _ _ => rfl)) (pg_sub (pv 0) pe_int set_list))
  (pss_one (ps_asg (pe_slice sl_list (pv 2) (po_some pe_int) po_none) (pg_sub (pv 0) pe_int set_list))))) pss_nil)
  (pss_cons (ps_if (pt_cmpR op_gt (pe_ix ix_list (pv 0) pe_int (fun _ _ => rfl)) pe_int (nomark _)) (pss_cons (ps_set (i := 3) sc__law_draw.nd rfl (Or.inl rfl) (pe_op op_mod (pe_callTy call_int1 (by rfl) T.b_int (by decide +kernel) (pa_cons (pe_ix ix_list (pv 0) pe_int (fun _ _ => rfl)) pa_nil)) (pv 1)))
  (pss_cons (ps_asg (pe_op op_fdivW (pe_ix ix_list (pv 0) pe_int (fun _ _ => rfl)) (pv 1)) (pg_sub (pv 0) pe_int set_list))
  (pss_one (ps_ret (pv 3))))) pss_nil)
  (pss_cons (ps_asg (pe_op op_add (pe_ix ix_list (pv 0) pe_int (fun _ _ => rfl)) pe_int) (pg_sub (pv 0) pe_int set_list))
  (pss_cons (ps_set (i := 4) sc__law_draw.nd rfl (Or.inl rfl) pe_int)
  (pss_cut (ps_if (pt_cmpR op_gt (pe_callB call_len_seq (by rfl) T.b_len (by decide +kernel) (pa_cons (pe_ix ix_list (pv 0) pe_int (fun _ _ => rfl)) pa_nil)) pe_int (nomark _)) (pss_one (ps_set (i := 4) sc__law_draw.nd rfl (Or.inl rfl) (pe_ix ix_list (pe_ix ix_list (pv 0) pe_int (fun _ _ => rfl)) (pe_op op_mod (pe_callTy call_int1 (by rfl) T.b_int (by decide +kernel) (pa_cons (pe_ix ix_list (pv 0) pe_int (fun _ _ => rfl)) pa_nil)) (pe_callB call_len_seq (by rfl) T.b_len (by decide +kernel) (pa_cons (pe_ix ix_list (pv 0) pe_int (fun _ _ => rfl)) pa_nil))) (fun _ _ => rfl)))) pss_nil)
  (pss_cons (ps_set (i := 5) sc__law_draw.nd rfl (Or.inl rfl) (pe_op op_mod (pe_callTy call_int1 (by rfl) T.b_int (by decide +kernel) (pa_cons (pe_op op_mul (pe_op op_add (pe_op op_add (pv 4) (pe_op op_mul pe_int (pe_ix ix_list (pv 0) pe_int (fun _ _ => rfl)))) pe_int) pe_int) pa_nil)) pe_int))
  (pss_cons (ps_set (i := 5) sc__law_draw.nd rfl (Or.inl rfl) (pe_op op_mod (pe_callTy call_int1 (by rfl) T.b_int (by decide +kernel) (pa_cons (pe_op op_mul (pv 5) (pe_op op_add (pe_op op_fdiv (pv 5) pe_int) pe_int)) pa_nil)) pe_int))
  (pss_cons (ps_set (i := 5) sc__law_draw.nd rfl (Or.inl rfl) (pe_op op_mod (pe_callTy call_int1 (by rfl) T.b_int (by decide +kernel) (pa_cons (pe_op op_mul (pv 5) (pe_op op_add (pe_op op_fdiv (pv 5) pe_int) pe_int)) pa_nil)) pe_int))
  (pss_one (ps_ret (pe_op op_mod (pe_callTy call_int1 (by rfl) T.b_int (by decide +kernel) (pa_cons (pe_op op_fdiv (pv 5) pe_int) pa_nil)) (pv 1)))))))))))), ?_⟩
  refine q_cut (M := fun σ' H' => ∃ x, σ' = [some (.ref p), some (.int m), x, none, none, none] ∧ SmB p H H' ∧ PoolAt M H' p) ?_ ?_
  · obtain ⟨g, s, gs, ss, cur, cnt, hP⟩ := hP
    have pix : ∀ {H1 : Hp} {j : Int} {v : V}, Ex H H1 → atI [V.ref g, .ref s, .int cur, .int cnt] j = some v → Ev (tOp (rIxL K) (tVar 0) (tC (.int j))) (L2.start N__law_draw [.ref p, .int m]) H1 v := fun e h =>
      ev_op (ev_var rfl) ev_c (rv_ixL (sq_of (e _ _ hP.obj)) h)
    refine s_when (et_and (et_test (ev_op (pix (Ex.refl _) rfl) ev_c (rv_eq rfl))) fun _ => et_test (ev_op (ev_lenL (pix (Ex.refl _) rfl) (sq_of hP.great)) ev_c rv_I0)) (fun hb H1 e1 => ?_) (fun hb H1 e1 => ?_)
    · have hlen := of_decide_eq_true (Bool.and_eq_true_iff.mp hb).2
      cases gs with
      | nil => exact absurd hlen (by decide)
      | cons y r =>
        refine q_asg (pix e1 rfl) fun H2 e2 => ?_
        have hP2 := (hP.ex e1).ex e2
        refine q_setL (j := 2) hP2.obj (ev_op (ev_var rfl) ev_c (rv_ixL (sq_of hP2.great) (at_of (j := 0) (v := V.int y) rfl rfl))) (ev_var rfl) ev_c (by show 2 < 4; decide) fun H3 e3 => ?_
        have hP3 := hP2.ex e3
        have hg3 : (upd H3 p (.lst ([V.ref g, .ref s, .int cur, .int cnt].set 2 (.int y)))) g = some (.lst ((y :: r).map V.int)) := by
          rw [upd_ne hP3.ng]
          exact hP3.great
        refine s_setLL (j := 0) upd_same (el_sl (ev_var rfl) (eo_some ev_c) eo_none (sq_of hg3)) (ev_var rfl) ev_c (by show 0 < 4; decide) fun q H4 hq e4 h4 => ?_
        rw [cut1] at h4
        have hnqp : q ≠ p := fun z => by
          rw [z, upd_same] at hq
          cases hq
        refine ⟨_, rfl, ?_, q, s, r, ss, y, cnt, upd_same, ?_, ?_, fun x hx => hP.gpos x (List.mem_cons_of_mem _ hx), hP.srng, Int.le_of_lt (hP.gpos y List.mem_cons_self), hP.cnt0, fun z => ?_, hP.ms⟩
        · exact (((SmB.of (e1.trans (e2.trans e3))).trans SmB.upd).trans (SmB.of e4)).trans SmB.upd
        · rw [upd_ne hnqp]
          exact h4
        · rw [upd_ne hP.ns]
          refine e4 _ _ ?_
          rw [upd_ne hP.ns]
          exact hP3.small
        · have hq3 : H3 q = none := by
            rw [upd_ne hnqp] at hq
            exact hq
          exact hM q z (fresh_back (e1.trans (e2.trans e3)) hq3)
    · exact ⟨_, rfl, SmB.of e1, (PoolAt.ex ⟨g, s, gs, ss, cur, cnt, hP⟩ e1)⟩
  rintro σ' H1 ⟨x2, rfl, s1, g, s, gs, ss, cur, cnt, hP1⟩
  have pix : ∀ {H2 : Hp} {σ2 : L2.St} {j : Int} {v : V}, σ2[0]? = some (some (.ref p)) → H2 p = some (.lst [V.ref g, .ref s, .int cur, .int cnt]) → atI [V.ref g, .ref s, .int cur, .int cnt] j = some v → Ev (tOp (rIxL K) (tVar 0) (tC (.int j))) σ2 H2 v := fun hv ho h =>
    ev_op (ev_var hv) ev_c (rv_ixL (sq_of ho) h)
  refine q_when (et_test (ev_op (pix rfl hP1.obj rfl) ev_c rv_I0)) (fun hb H2 e2 => ?_) (fun hb H2 e2 => ?_)
  · have hP2 := hP1.ex e2
    refine q_asg (ev_op (ev_int (K := K) (pix rfl hP2.obj rfl)) (ev_var rfl) (rv_I hm)) fun H3 e3 => ?_
    have hP3 := hP2.ex e3
    refine q_setL (j := 2) hP3.obj (ev_op (pix rfl hP3.obj rfl) (ev_var rfl) (rv_I ⟨hm, hlog⟩)) (ev_var rfl) ev_c (by show 2 < 4; decide) fun H4 e4 => ?_
    have hP4 := hP3.ex e4
    refine s_ret (ev_var rfl) fun H5 e5 => k _ _ (Int.emod_nonneg _ (by omega)) (Int.emod_lt_of_pos _ hm) ?_ (PoolAt.ex ⟨g, s, gs, ss, cur / m, cnt, upd_same, ?_, ?_, hP1.gpos, hP1.srng, Int.ediv_nonneg hP1.cur0 (Int.le_of_lt hm), hP1.cnt0, hP1.mg, hP1.ms⟩ e5)
    · exact ((s1.trans (SmB.of (e2.trans (e3.trans e4)))).trans SmB.upd).trans (SmB.of e5)
    · rw [upd_ne hP1.ng]
      exact hP4.great
    · rw [upd_ne hP1.ns]
      exact hP4.small
  · have hP2 := hP1.ex e2
    refine q_setL (j := 3) hP2.obj (ev_op (pix rfl hP2.obj rfl) ev_c rv_I0) (ev_var rfl) ev_c (by show 3 < 4; decide) fun H3 e3 => ?_
    have hP3 : PoolS M (upd H3 p (.lst ([V.ref g, .ref s, .int cur, .int cnt].set 3 (.int (cnt + 1))))) p g s gs ss cur (cnt + 1) := by
      have z := hP2.ex e3
      refine ⟨upd_same, ?_, ?_, z.gpos, z.srng, z.cur0, by have := z.cnt0; omega, z.mg, z.ms⟩
      · rw [upd_ne z.ng]
        exact z.great
      · rw [upd_ne z.ns]
        exact z.small
    have s3 : SmB p H (upd H3 p (.lst ([V.ref g, .ref s, .int cur, .int cnt].set 3 (.int (cnt + 1))))) := (s1.trans (SmB.of (e2.trans e3))).trans SmB.upd
    generalize upd H3 p (.lst ([V.ref g, .ref s, .int cur, .int cnt].set 3 (.int (cnt + 1)))) = H3 at hP3 s3
    refine q_asg ev_c fun H4 e4 => ?_
    have hP4 := hP3.ex e4
    have s4 := s3.trans (SmB.of (a := p) e4)
    have pix4 : ∀ {H2 : Hp} {σ2 : L2.St} {j : Int} {v : V}, σ2[0]? = some (some (.ref p)) → H2 p = some (.lst [V.ref g, .ref s, .int cur, .int (cnt + 1)]) → atI [V.ref g, .ref s, .int cur, .int (cnt + 1)] j = some v → Ev (tOp (rIxL K) (tVar 0) (tC (.int j))) σ2 H2 v := fun hv ho h =>
      ev_op (ev_var hv) ev_c (rv_ixL (sq_of ho) h)
    refine q_cut (M := fun σ' H' => ∃ sd : Int, σ' = [some (.ref p), some (.int m), x2, none, some (.int sd), none] ∧ Ex H4 H') ?_ ?_
    · refine s_when (et_test (ev_op (ev_lenL (pix4 rfl hP4.obj rfl) (sq_of hP4.small)) ev_c rv_I0)) (fun hb H5 e5 => ?_) (fun hb H5 e5 => ?_)
      · have hlen := of_decide_eq_true hb
        rw [List.length_map] at hlen
        have hP5 := hP4.ex e5
        have h0 : 0 ≤ (cnt + 1) % (ss.length : Int) := Int.emod_nonneg _ (by omega)
        have h1 : (cnt + 1) % (ss.length : Int) < (ss.length : Int) := Int.emod_lt_of_pos _ (by omega)
        have hi : ((cnt + 1) % (ss.length : Int)).toNat < ss.length := by omega
        have ha : atI (ss.map V.int) ((cnt + 1) % ((ss.map V.int).length : Int)) = some (.int ss[((cnt + 1) % (ss.length : Int)).toNat]) := by
          rw [List.length_map]
          refine at_of (j := ((cnt + 1) % (ss.length : Int)).toNat) (by omega) ?_
          rw [List.getElem?_map, List.getElem?_eq_getElem hi]
          rfl
        refine s_asg (ev_op (pix4 rfl hP5.obj rfl) (ev_op (ev_int (K := K) (pix4 rfl hP5.obj rfl)) (ev_lenL (pix4 rfl hP5.obj rfl) (sq_of hP5.small)) (rv_I (by rw [List.length_map]; exact hlen))) (rv_ixL (sq_of hP5.small) ha)) fun H6 e6 => ?_
        exact ⟨_, rfl, e5.trans e6⟩
      · exact ⟨_, rfl, e5⟩
    rintro σ' H5 ⟨sd, rfl, e5⟩
    have hP5 := hP4.ex e5
    refine q_asg (ev_op (ev_int (K := K) (ev_op (ev_op (ev_op (ev_var rfl) (ev_op ev_c (pix4 rfl hP5.obj rfl) (rv_I (.inl ⟨by decide, by decide⟩))) rv_I0) ev_c rv_I0) ev_c (rv_I (.inr ⟨by decide, by decide⟩)))) ev_c (rv_I (by show (0 : Int) < 2147483647; decide))) fun H6 e6 => ?_
    have bm : ∀ x : Int, 0 ≤ x % 2147483647 ∧ x % 2147483647 < 2147483647 := fun x => ⟨Int.emod_nonneg _ (by decide), Int.emod_lt_of_pos _ (by decide)⟩
    generalize hn1 : (sd + 7919 * (cnt + 1) + 1) * 48271 % 2147483647 = n1
    have b1 : 0 ≤ n1 ∧ n1 < 2147483647 := hn1 ▸ bm _
    refine q_asg (ev_op (ev_int (K := K) (ev_op (ev_var rfl) (ev_op (ev_op (ev_var rfl) ev_c (rv_I ⟨by decide, by decide⟩)) ev_c rv_I0) (rv_I (.inl ⟨by omega, by omega⟩)))) ev_c (rv_I (by show (0 : Int) < 2147483647; decide))) fun H7 e7 => ?_
    generalize hn2 : n1 * (n1 / 1009 + 69621) % 2147483647 = n2
    have b2 : 0 ≤ n2 ∧ n2 < 2147483647 := hn2 ▸ bm _
    refine q_asg (ev_op (ev_int (K := K) (ev_op (ev_var rfl) (ev_op (ev_op (ev_var rfl) ev_c (rv_I ⟨by decide, by decide⟩)) ev_c rv_I0) (rv_I (.inl ⟨by omega, by omega⟩)))) ev_c (rv_I (by show (0 : Int) < 2147483399; decide))) fun H8 e8 => ?_
    refine s_ret (ev_op (ev_int (K := K) (ev_op (ev_var rfl) ev_c (rv_I ⟨by decide, by decide⟩))) (ev_var rfl) (rv_I hm)) fun H9 e9 => k _ _ (Int.emod_nonneg _ (by omega)) (Int.emod_lt_of_pos _ hm) ?_ ?_
    · exact s4.trans (SmB.of (e5.trans (e6.trans (e7.trans (e8.trans e9)))))
    · exact PoolAt.ex ⟨g, s, gs, ss, cur, cnt + 1, hP4⟩ (e5.trans (e6.trans (e7.trans (e8.trans e9))))

abbrev s__law_pick : Stmt := top 15
abbrev N__law_pick : List Str := ["_law_pool_here", "_law_items"]
theorem sc__law_pick : FnScope N__law_pick ["_law_pool_here", "_law_items"] (defScope s__law_pick) := ⟨rfl, rfl, rfl, by decide +kernel, rfl, by decide +kernel, by decide +kernel⟩
def spPick (K : PySem.W.Frag) : Sp := fun vs H Q _ => ∃ (M : Addr → Prop) (p l : Addr) (xs : List V), vs = [.ref p, .ref l] ∧ Live M H ∧ PoolAt M H p ∧ SqL K H l xs ∧ l ≠ p ∧ 0 < xs.length ∧ xs.length ≤ 1000000 ∧ ∀ v H', v ∈ xs → SmB p H H' → PoolAt M H' p → Q v H'
theorem ok_pick (T : Txt K mg) (D__law_draw : Df P w K mg base 1 "_law_draw" ["_law_pool_here", "_law_many"] spDraw) {f : Addr} {fd : FuncData} (F : Fun K "_law_pick" "_law_pick" s__law_pick f fd) :
    FnOk P w K mg base CX0 2 f fd ["_law_pool_here", "_law_items"] (spPick K) := by
  refine F.ok sc__law_pick (fun vs H Q E h => ?_) (fun cdv A outer s H vs Q E hr h => ?_)
  · obtain ⟨M, p, l, xs, rfl, _⟩ := h
    rfl
  obtain ⟨M, p, l, xs, rfl, hM, hP, hS, hne, h0, h1, k⟩ := h
  refine ⟨_, (pss_one (ps_ret (pe_ix ix_list (pv 1) (pe_call D__law_draw.G (hr.mono (by omega)) rfl D__law_draw.m D__law_draw.kp D__law_draw.b .nil pass0 (pa_cons (pv 0) (pa_cons (pe_callB call_len_seq (by rfl) T.b_len (by decide +kernel) (pa_cons (pv 1) pa_nil)) pa_nil))) (fun _ _ => rfl)))), ?_⟩
  refine ⟨_, rfl, _, rfl, _, rfl, l, xs, rfl, .inl hS, M, p, _, rfl, hM, hP, by omega, lgs (lt40 (by omega)), fun d H' d0 d1 hs hP' => ?_⟩
  have hd : d.toNat < xs.length := by omega
  exact ⟨l, xs, d, xs[d.toNat], rfl, rfl, hs.l hne hS, at_of (j := d.toNat) (by omega) (List.getElem?_eq_getElem hd), k _ _ (List.getElem_mem hd) hs hP'⟩

abbrev s__law_same : Stmt := top 16
abbrev N__law_same : List Str := ["_law_a", "_law_b", "_law_x", "_law_y"]
theorem sc__law_same : FnScope N__law_same ["_law_a", "_law_b"] (defScope s__law_same) := ⟨rfl, rfl, rfl, by decide +kernel, rfl, by decide +kernel, by decide +kernel⟩
def spS : Nat → Sp
  | 0 => fun _ _ _ _ => False
  | n + 1 => fun vs H Q _ => ∃ (x y : V) (d : PyData), vs = [x, y] ∧ Rp M0 H n x d ∧ Rp M0 H n y d ∧ ∀ H', Ex H H' → Q (.bl true) H'
theorem ok_same0 {f : Addr} {fd : FuncData} : FnOk P w K mg base CX0 0 f fd ["_law_a", "_law_b"] (spS 0) :=
  ⟨fun vs H Q E h => (show False from h).elim, fun A outer s H args us vs Q E _ _ _ _ h => (show False from h).elim⟩
theorem ok_same1 (T : Txt K mg) {n : Nat} {f : Addr} {fd : FuncData} (F : Fun K "_law_same" "_law_same" s__law_same f fd) (D__law_same : Df P w K mg base n "_law_same" ["_law_a", "_law_b"] (spS n)) :
    FnOk P w K mg base CX0 (n + 1) f fd ["_law_a", "_law_b"] (spS (n + 1)) := by
  refine F.ok sc__law_same (fun vs H Q E h => ?_) (fun cdv A outer s H vs Q E hr h => ?_)
  · obtain ⟨x, y, d, rfl, _⟩ := h
    rfl
  obtain ⟨x, y, d, rfl, hx, hy, k⟩ := h
  refine ⟨_, (pss_cons (ps_if (pt_val (pe_callB call_isi (by rfl) T.b_isinstance (by decide +kernel) (pa_cons (pv 1) (pa_cons (pe_bltn (v := .ty "tuple") (by rfl) T.b_tuple (by decide +kernel) rfl) pa_nil)))) (pss_cons (ps_if (PW.pt (pw_or (pt_not (pt_val (pe_callB call_isi (by rfl) T.b_isinstance (by decide +kernel) (pa_cons (pv 0) (pa_cons (pe_bltn (v := .ty "tuple") (by rfl) T.b_tuple (by decide +kernel) rfl) pa_nil))))) (pw_or1 (pt_cmpR op_ne (pe_callB call_len_seq (by rfl) T.b_len (by decide +kernel) (pa_cons (pv 0) pa_nil)) (pe_callB call_len_seq (by rfl) T.b_len (by decide +kernel) (pa_cons (pv 1) pa_nil)) (nomark _))))) (pss_one (ps_ret pe_bl)) pss_nil)
  (pss_one (ps_ret (pe_callB (cr_all rfl) (by rfl) T.b_all (by decide +kernel) (pa_cons (pe_lc (own := [("_law_x", 2), ("_law_y", 3)]) (g := (gTup K 2 (gCons (gName 2) (gCons (gName 3) gNil)))) (tt := tYes) rfl sc__law_same.nd (RZ.pi_zipA (by rfl) T.b_zip (pa_cons (pv 0) (pa_cons (pv 1) pa_nil))) (blkOk_by (own := [("_law_x", 2), ("_law_y", 3)]) (N := N__law_same) (sc := defScope s__law_same) (by decide +kernel)) (fun _ _ _ _ _ => (pg_tup rfl (pgs_cons (pg_name (i := 2) sc__law_same.nd rfl (Or.inl rfl)) (pgs_cons (pg_name (i := 3) sc__law_same.nd rfl (Or.inl rfl)) pgs_nil)))) (fun _ _ _ _ _ => pts_nil) (fun _ _ _ _ _ => (pe_call D__law_same.G (hr.mono (by omega)) rfl D__law_same.m D__law_same.kp D__law_same.b .nil pass0 (pa_cons (pv 2) (pa_cons (pv 3) pa_nil))))) pa_nil))))) pss_nil)
  (pss_cons (ps_if (pt_val (pe_callB call_isi (by rfl) T.b_isinstance (by decide +kernel) (pa_cons (pv 1) (pa_cons (pe_bltn (v := .ty "list") (by rfl) T.b_list (by decide +kernel) rfl) pa_nil)))) (pss_cons (ps_if (PW.pt (pw_or (pt_not (pt_val (pe_callB call_isi (by rfl) T.b_isinstance (by decide +kernel) (pa_cons (pv 0) (pa_cons (pe_bltn (v := .ty "list") (by rfl) T.b_list (by decide +kernel) rfl) pa_nil))))) (pw_or1 (pt_cmpR op_ne (pe_callB call_len_seq (by rfl) T.b_len (by decide +kernel) (pa_cons (pv 0) pa_nil)) (pe_callB call_len_seq (by rfl) T.b_len (by decide +kernel) (pa_cons (pv 1) pa_nil)) (nomark _))))) (pss_one (ps_ret pe_bl)) pss_nil)
  (pss_one (ps_ret (pe_callB (cr_all rfl) (by rfl) T.b_all (by decide +kernel) (pa_cons (pe_lc (own := [("_law_x", 2), ("_law_y", 3)]) (g := (gTup K 2 (gCons (gName 2) (gCons (gName 3) gNil)))) (tt := tYes) rfl sc__law_same.nd (RZ.pi_zipA (by rfl) T.b_zip (pa_cons (pv 0) (pa_cons (pv 1) pa_nil))) (blkOk_by (own := [("_law_x", 2), ("_law_y", 3)]) (N := N__law_same) (sc := defScope s__law_same) (by decide +kernel)) (fun _ _ _ _ _ => (pg_tup rfl (pgs_cons (pg_name (i := 2) sc__law_same.nd rfl (Or.inl rfl)) (pgs_cons (pg_name (i := 3) sc__law_same.nd rfl (Or.inl rfl)) pgs_nil)))) (fun _ _ _ _ _ => pts_nil) (fun _ _ _ _ _ => (pe_call D__law_same.G (hr.mono (by omega)) rfl D__law_same.m D__law_same.kp D__law_same.b .nil pass0 (pa_cons (pv 2) (pa_cons (pv 3) pa_nil))))) pa_nil))))) pss_nil)
  (pss_cons (ps_if (pt_cmpR op_isN (pv 1) pe_non (nomark _)) (pss_one (ps_ret (pe_cmpR op_isN (pv 0) pe_non (nomark _)))) pss_nil)
  (pss_cons (ps_if (pt_val (pe_callB call_isi (by rfl) T.b_isinstance (by decide +kernel) (pa_cons (pv 1) (pa_cons (pe_bltn (v := .ty "bool") (by rfl) T.b_bool (by decide +kernel) rfl) pa_nil)))) (pss_one (ps_ret (pe_and (pe_callB call_isi (by rfl) T.b_isinstance (by decide +kernel) (pa_cons (pv 0) (pa_cons (pe_bltn (v := .ty "bool") (by rfl) T.b_bool (by decide +kernel) rfl) pa_nil))) (pe_one (pe_cmpR op_eq (pv 0) (pv 1) (nomark _)))))) pss_nil)
  (pss_cons (ps_if (pt_val (pe_callB call_isi (by rfl) T.b_isinstance (by decide +kernel) (pa_cons (pv 1) (pa_cons (pe_bltn (v := .ty "int") (by rfl) T.b_int (by decide +kernel) rfl) pa_nil)))) (pss_one (ps_ret (pe_and (pe_callB call_isi (by rfl) T.b_isinstance (by decide +kernel) (pa_cons (pv 0) (pa_cons (pe_bltn (v := .ty "int") (by rfl) T.b_int (by decide +kernel) rfl) pa_nil))) (pe_and (pe_not (pe_callB call_isi (by rfl) T.b_isinstance (by decide +kernel) (pa_cons (pv 0) (pa_cons (pe_bltn (v := .ty "bool") (by rfl) T.b_bool (by decide +kernel) rfl) pa_nil)))) (pe_one (pe_cmpR op_eq (pv 0) (pv 1) (nomark _))))))) pss_nil)
  (pss_one (ps_ret (pe_and (pe_callB call_isi (by rfl) T.b_isinstance (by decide +kernel) (pa_cons (pv 0) (pa_cons (pe_bltn (v := .ty "str") (by rfl) T.b_str (by decide +kernel) rfl) pa_nil))) (pe_one (pe_cmpR op_eq (pv 0) (pv 1) (nomark _))))))))))), ?_⟩
  -- a tuple
  refine q_when (et_B (ev_isi (ev_var rfl) hy (.inl rfl))) (fun hb H1 e1 => ?_) (fun hb H1 e1 => ?_)
  · cases d with
    | tuple ds =>
      cases n with
      | zero => cases x <;> exact hx.elim
      | succ n =>
      cases x with
      | ref a =>
        cases y with
        | ref b =>
          have hx1 := hx.ex e1
          have hy1 := hy.ex e1
          obtain ⟨xs, ha, _, pa, _⟩ := id hx1
          obtain ⟨ys, hb', _, pb, _⟩ := id hy1
          have hl : xs.length = ys.length := (pair_len pa).trans (pair_len pb).symm
          refine q_when (b := false) (et_is (et_or (et_not (et_B (ev_isi (ev_var rfl) hx1 (.inl rfl)))) fun _ => et_test (ev_op (ev_lenT (ev_var rfl) (st_of ha)) (ev_lenT (ev_var rfl) (st_of hb')) (rv_ne rfl))) (by rw [hl]; simp [isA])) (fun z => Bool.noConfusion z) (fun _ H2 e2 => ?_)
          refine ⟨_, rfl, _, rfl, a, b, xs, ys, rfl, .inr ⟨st_of (e2 _ _ ha), st_of (e2 _ _ hb'), fun D hD => ?_⟩⟩
          refine lc_it (walk_zipT (K := K) (a := a) (b := b) (xs := xs) (ys := ys) (n := xs.length) (by omega)) (fun i H3 => Ex H2 H3 ∧ H3 D = some (.lst ((List.replicate i true).map V.bl))) ⟨Ex.new hD, upd_same⟩ (fun i H3 _ z => ⟨st_of (z.1 _ _ (e2 _ _ ha)), st_of (z.1 _ _ (e2 _ _ hb'))⟩) ?_ ?_
          · rintro i v H3 H4 hi ⟨e3, hD3⟩ ⟨T, u1, u2, rfl, hT, rfl, h1, h2⟩
            obtain ⟨d1, g1, r1⟩ := pair_at pa h1
            obtain ⟨d2, g2, r2⟩ := pair_at pb h2
            rw [g1] at g2
            cases g2
            have eT : Ex H3 (upd H3 T (.tup [u1, u2])) := Ex.new hT
            refine ⟨T, _, rfl, st_of upd_same, rfl, _, _, rfl, _, _, rfl, rfl, rfl, ?_⟩
            refine yes_if ?_
            have eA : Ex H1 (upd H3 T (.tup [u1, u2])) := e2.trans (e3.trans eT)
            refine ⟨u1, rfl, u2, rfl, u1, u2, d1, rfl, r1.ex eA, r2.ex eA, fun H5 e5 => ?_⟩
            refine ⟨_, e5 _ _ (eT _ _ hD3), ?_, (e3.trans (eT.trans e5)).mut hD, ?_⟩
            · rw [List.length_map, List.length_replicate]
              have := hx1.choose_spec.2.1
              exact small1000 (by
                obtain ⟨xs', ha', hl', _⟩ := hx1
                rw [ha] at ha'
                cases ha'
                omega)
            · rw [upd_same, List.replicate_succ', List.map_append]
              rfl
          · rintro H3 ⟨e3, hD3⟩
            refine ⟨D, _, rfl, sq_of hD3, ?_⟩
            rw [all_yes]
            exact k _ (e1.trans (e2.trans e3))
        | _ => exact hy.elim
      | _ => exact hx.elim
    | _ => exact absurd hb (by simp [isA])
  -- a list
  refine q_when (et_B (ev_isi (ev_var rfl) (hy.ex e1) (.inr (.inl rfl)))) (fun hb2 H2 e2 => ?_) (fun hb2 H2 e2 => ?_)
  · cases d with
    | list ds =>
      cases n with
      | zero => cases x <;> exact hx.elim
      | succ n =>
      cases x with
      | ref a =>
        cases y with
        | ref b =>
          have hx1 := hx.ex (e1.trans e2)
          have hy1 := hy.ex (e1.trans e2)
          obtain ⟨xs, ha, hxl, pa, _⟩ := id hx1
          obtain ⟨ys, hb', _, pb, _⟩ := id hy1
          have hl : xs.length = ys.length := (pair_len pa).trans (pair_len pb).symm
          refine q_when (b := false) (et_is (et_or (et_not (et_B (ev_isi (ev_var rfl) hx1 (.inr (.inl rfl))))) fun _ => et_test (ev_op (ev_lenL (ev_var rfl) (sq_of ha)) (ev_lenL (ev_var rfl) (sq_of hb')) (rv_ne rfl))) (by rw [hl]; simp [isA])) (fun z => Bool.noConfusion z) (fun _ H3 e3 => ?_)
          refine ⟨_, rfl, _, rfl, a, b, xs, ys, rfl, .inl ⟨sq_of (e3 _ _ ha), sq_of (e3 _ _ hb'), fun D hD => ?_⟩⟩
          refine lc_it (walk_zip (K := K) (a := a) (b := b) (xs := xs) (ys := ys) (n := xs.length) (by omega)) (fun i H4 => Ex H3 H4 ∧ H4 D = some (.lst ((List.replicate i true).map V.bl))) ⟨Ex.new hD, upd_same⟩ (fun i H4 _ z => ⟨sq_of (z.1 _ _ (e3 _ _ ha)), sq_of (z.1 _ _ (e3 _ _ hb'))⟩) ?_ ?_
          · rintro i v H4 H5 hi ⟨e4, hD4⟩ ⟨T, u1, u2, rfl, hT, rfl, h1, h2⟩
            obtain ⟨d1, g1, r1⟩ := pair_at pa h1
            obtain ⟨d2, g2, r2⟩ := pair_at pb h2
            rw [g1] at g2
            cases g2
            have eT : Ex H4 (upd H4 T (.tup [u1, u2])) := Ex.new hT
            refine ⟨T, _, rfl, st_of upd_same, rfl, _, _, rfl, _, _, rfl, rfl, rfl, ?_⟩
            refine yes_if ?_
            have eA : Ex H2 (upd H4 T (.tup [u1, u2])) := e3.trans (e4.trans eT)
            refine ⟨u1, rfl, u2, rfl, u1, u2, d1, rfl, r1.ex eA, r2.ex eA, fun H6 e6 => ?_⟩
            refine ⟨_, e6 _ _ (eT _ _ hD4), ?_, (e4.trans (eT.trans e6)).mut hD, ?_⟩
            · rw [List.length_map, List.length_replicate]
              exact small1000 (by omega)
            · rw [upd_same, List.replicate_succ', List.map_append]
              rfl
          · rintro H4 ⟨e4, hD4⟩
            refine ⟨D, _, rfl, sq_of hD4, ?_⟩
            rw [all_yes]
            exact k _ ((e1.trans e2).trans (e3.trans e4))
        | _ => exact hy.elim
      | _ => exact hx.elim
    | _ => exact absurd hb2 (by simp [isA])
  -- what is no object
  have e12 := e1.trans e2
  have scalars : (d = .none ∧ x = .non ∧ y = .non) ∨ (∃ b, d = .bool b ∧ x = .bl b ∧ y = .bl b) ∨ (∃ i, d = .int i ∧ x = .int i ∧ y = .int i) ∨ ∃ i, d = .str i ∧ x = .str i ∧ y = .str i := by
    cases d with
    | tuple ds => exact absurd hb (by simp [isA])
    | list ds => exact absurd hb2 (by simp [isA])
    | none => cases n <;> cases x <;> cases y <;> first | exact .inl ⟨rfl, rfl, rfl⟩ | (exfalso; exact hx) | (exfalso; exact hy)
    | bool b => cases n <;> cases x <;> cases y <;> first | exact .inr (.inl ⟨b, rfl, congrArg V.bl hx, congrArg V.bl hy⟩) | (exfalso; exact hx) | (exfalso; exact hy)
    | int b => cases n <;> cases x <;> cases y <;> first | exact .inr (.inr (.inl ⟨b, rfl, congrArg V.int hx, congrArg V.int hy⟩)) | (exfalso; exact hx) | (exfalso; exact hy)
    | str b => cases n <;> cases x <;> cases y <;> first | exact .inr (.inr (.inr ⟨b, rfl, congrArg V.str hx, congrArg V.str hy⟩)) | (exfalso; exact hx) | (exfalso; exact hy)
    | dict kvs => cases n <;> cases x <;> (exfalso; exact hx)
  have isn : ∀ {v : V} {j : Nat} {σ2 : L2.St} {H2 : Hp}, σ2[j]? = some (some v) → Ev (tOp (fun x y H Q => y = V.non ∧ Q (.bl (decide (x = .non))) H) (tVar j) (tC .non)) σ2 H2 (.bl (decide (v = .non))) := fun h => ev_op (ev_var h) ev_c fun H3 _ Q q => ⟨rfl, q H3 (Ex.refl H3)⟩
  have hy2 := hy.ex e12
  have hx2 := hx.ex e12
  rcases scalars with ⟨rfl, rfl, rfl⟩ | ⟨b, rfl, rfl, rfl⟩ | ⟨i, rfl, rfl, rfl⟩ | ⟨i, rfl, rfl, rfl⟩
  · refine q_when (et_test (isn rfl)) (fun _ H3 e3 => ?_) (fun hb H3 e3 => absurd hb (by simp))
    exact s_ret (isn rfl) fun H4 e4 => k _ (e12.trans (e3.trans e4))
  · refine q_when (et_test (isn rfl)) (fun hb H3 e3 => absurd hb (by simp)) (fun _ H3 e3 => ?_)
    refine q_when (et_B (ev_isi (ev_var rfl) (hy2.ex e3) (.inr (.inr (.inl rfl))))) (fun _ H4 e4 => ?_) (fun hb H4 e4 => absurd hb (by simp [isA]))
    exact s_ret (v := .bl true) (ev_is (ev_andV (ev_isi (ev_var rfl) (hx2.ex (e3.trans e4)) (.inr (.inr (.inl rfl)))) fun _ => ev_op (ev_var rfl) (ev_var rfl) (rv_eq rfl)) (by simp [isA])) fun H5 e5 => k _ (e12.trans (e3.trans (e4.trans e5)))
  · refine q_when (et_test (isn rfl)) (fun hb H3 e3 => absurd hb (by simp)) (fun _ H3 e3 => ?_)
    refine q_when (et_B (ev_isi (ev_var rfl) (hy2.ex e3) (.inr (.inr (.inl rfl))))) (fun hb H4 e4 => absurd hb (by simp [isA])) (fun _ H4 e4 => ?_)
    refine q_when (et_B (ev_isi (ev_var rfl) (hy2.ex (e3.trans e4)) (.inr (.inr (.inr (.inl rfl)))))) (fun _ H5 e5 => ?_) (fun hb H5 e5 => absurd hb (by simp [isA]))
    have e35 := e3.trans (e4.trans e5)
    exact s_ret (v := .bl true) (ev_is (ev_andV (ev_isi (ev_var rfl) (hx2.ex e35) (.inr (.inr (.inr (.inl rfl))))) fun _ => ev_andV (ev_notV (ev_isi (ev_var rfl) (hx2.ex e35) (.inr (.inr (.inl rfl))))) fun _ => ev_op (ev_var rfl) (ev_var rfl) (rv_eq rfl)) (by simp [isA])) fun H6 e6 => k _ (e12.trans (e35.trans e6))
  · refine q_when (et_test (isn rfl)) (fun hb H3 e3 => absurd hb (by simp)) (fun _ H3 e3 => ?_)
    refine q_when (et_B (ev_isi (ev_var rfl) (hy2.ex e3) (.inr (.inr (.inl rfl))))) (fun hb H4 e4 => absurd hb (by simp [isA])) (fun _ H4 e4 => ?_)
    refine q_when (et_B (ev_isi (ev_var rfl) (hy2.ex (e3.trans e4)) (.inr (.inr (.inr (.inl rfl)))))) (fun hb H5 e5 => absurd hb (by simp [isA])) (fun _ H5 e5 => ?_)
    have e35 := e3.trans (e4.trans e5)
    exact s_ret (v := .bl true) (ev_is (ev_andV (ev_isi (ev_var rfl) (hx2.ex e35) (.inr (.inr (.inr (.inr (.inl rfl)))))) fun _ => ev_op (ev_var rfl) (ev_var rfl) (rv_eq rfl)) (by simp [isA])) fun H6 e6 => k _ (e12.trans (e35.trans e6))

def isT (lo hi : Int) : PyData → Bool
  | .tuple ds => decide (lo ≤ (ds.length : Int)) && decide ((ds.length : Int) ≤ hi)
  | _ => false
abbrev s_is_tuple : Stmt := top 1
abbrev N_is_tuple : List Str := ["value", "fewest", "most"]
theorem sc_is_tuple : FnScope N_is_tuple ["value", "fewest", "most"] (defScope s_is_tuple) := ⟨rfl, rfl, rfl, by decide +kernel, rfl, by decide +kernel, by decide +kernel⟩
def spIsT : Sp := fun vs H Q _ => ∃ (x : V) (n : Nat) (d : PyData) (lo hi : Int), vs = [x, .int lo, .int hi] ∧ Rp M0 H n x d ∧ ∀ H', Ex H H' → Q (.bl (isT lo hi d)) H'
theorem ok_is_tuple (T : Txt K mg) {f : Addr} {fd : FuncData} (F : Fun K "is_tuple" "is_tuple" s_is_tuple f fd) : FnOk P w K mg base CX0 1 f fd ["value", "fewest", "most"] spIsT := by
  refine F.ok sc_is_tuple (fun vs H Q E h => ?_) (fun cdv A outer s H vs Q E hr h => ?_)
  · obtain ⟨x, n, d, lo, hi, rfl, _⟩ := h
    rfl
  obtain ⟨x, n, d, lo, hi, rfl, hx, k⟩ := h
  refine ⟨_, (pss_one (ps_ret (pe_and (pe_callB call_isi (by rfl) T.b_isinstance (by decide +kernel) (pa_cons (pv 0) (pa_cons (pe_bltn (v := .ty "tuple") (by rfl) T.b_tuple (by decide +kernel) rfl) pa_nil))) (pe_one (pe_chain op_le op_le (pv 1) (pe_callB call_len_seq (by rfl) T.b_len (by decide +kernel) (pa_cons (pv 0) pa_nil)) (pv 2)))))), ?_⟩
  cases d with
  | tuple ds => exact s_ret (v := .bl (isT lo hi (.tuple ds))) (ev_is (ev_andV (ev_isi (ev_var rfl) hx (.inl rfl)) fun _ => ev_chain (k1 := decide (lo ≤ (ds.length : Int))) (k2 := decide ((ds.length : Int) ≤ hi)) (ev_var rfl) (ev_lenD (ev_var rfl) hx) (ev_var rfl) rv_I0 fun _ => rv_I0) (by simp [isA, isT])) fun H1 e1 => k H1 e1
  | _ => exact s_ret (v := .bl false) (ev_is (ev_andV (b := false) (ev_isi (ev_var rfl) hx (.inl rfl)) fun z => absurd z (by simp [isA])) (by simp [isA])) fun H1 e1 => k H1 e1
abbrev s_InvalidGraph___init__ : Stmt := inClass (top 4) 0
abbrev N_InvalidGraph___init__ : List Str := ["self", "part", "path"]
theorem sc_InvalidGraph___init__ : FnScope N_InvalidGraph___init__ ["self", "part", "path"] (defScope s_InvalidGraph___init__) := ⟨rfl, rfl, rfl, by decide +kernel, rfl, by decide +kernel, by decide +kernel⟩
theorem ok_InvalidGraph (T : Txt K mg) {C S : Addr} (x : XC K C S) (sup : Sup K mg "SwapError" S) (n_part : PySem.W.findIn K (.ref C) "part" = some none) (n_path : PySem.W.findIn K (.ref C) "path" = some none) {f : Addr} {fd : FuncData} (F : Fun K "__init__" "InvalidGraph.__init__" s_InvalidGraph___init__ f fd) :
    FnOk P w K mg base CX0 1 f fd ["self", "part", "path"] (spX C ["part", "path"] [1, 3]) := by
  refine F.ok sc_InvalidGraph___init__ (fun vs H Q E h => ?_) (fun cdv A outer s H vs Q E hr h => ?_)
  · obtain ⟨a, args, ds, rfl, _, _, _, hl, _⟩ := h
    exact congrArg (· + 1) hl
  obtain ⟨a, args, ds, rfl, ha, hr1, hk, hlen, k⟩ := h
  cases hk with
  | @cons _ d0 _ ds0 k0 hk =>
  cases hr1 with
  | @cons v0 _ _ _ r0 hr1 =>
  cases hk with
  | @cons _ d1 _ ds1 k1 hk =>
  cases hr1 with
  | @cons v1 _ _ _ r1 hr1 =>
  cases hk
  cases hr1
  obtain ⟨z0, rfl, hz0⟩ := ok1 k0 r0
  obtain ⟨b1, l1, rfl, hb1, hz1, hy1⟩ := ok3 k1 r1
  refine ⟨_, (pss_cons (ps_expr (pe_sinit (by rfl) sup (pa_cons (pv 0) (pa_cons (pe_joined (PJ.cons pe_str (PJ.cons (pe_fmt (pv 1)) (PJ.cons pe_str (PJ.cons ((pe_fmtI hr) (pv 2)) PJ.nil))))) pa_nil))))
  (pss_cons (ps_ost (pv 0) (pv 1))
  (pss_one (ps_ost (pv 0) (pv 2))))), ?_⟩
  refine seq_drop ⟨_, rfl, js_ok (fun out => ⟨a, C, [.str out], rfl, (by show 1 ≤ 1000; decide), x.oex, ha, ?_⟩) _ _ (fun t ht => ?_) (by show 0 + 3000000 * 4 ≤ 16777216; decide)⟩
  · simp only [List.mem_cons, List.not_mem_nil, or_false] at ht
    rcases ht with rfl | rfl | rfl | rfl
    · exact part_c (by decide +kernel)
    · exact part_s (i := 1) rfl hz0
    · exact part_c (by decide +kernel)
    · exact part_t (K := K) (i := 2) rfl hb1 hz1 hy1
  · refine ⟨_, rfl, _, rfl, a, C, rfl, x.oex, n_part, .inl ⟨ha, fun dx hdx hne => ?_⟩⟩
    refine ⟨_, rfl, _, rfl, a, C, rfl, x.oex, n_path, .inr ⟨dx, [("part", _)], upd_same, by rw [upd_ne hne, upd_same], by show 1 ≤ 900; decide, ?_⟩⟩
    have hh := held2N (f := "part") (g := "path") (Ex.refl H) ha hdx hne (by decide +kernel) r0 r1
    exact k _ dx _ (fresh_back (Ex.refl H) hdx) hh.1 hh.2.1 hh.2.2.1 hh.2.2.2

abbrev s_InvalidRule___init__ : Stmt := inClass (top 5) 0
abbrev N_InvalidRule___init__ : List Str := ["self", "path"]
theorem sc_InvalidRule___init__ : FnScope N_InvalidRule___init__ ["self", "path"] (defScope s_InvalidRule___init__) := ⟨rfl, rfl, rfl, by decide +kernel, rfl, by decide +kernel, by decide +kernel⟩
theorem ok_InvalidRule (T : Txt K mg) {C S : Addr} (x : XC K C S) (sup : Sup K mg "SwapError" S) (n_path : PySem.W.findIn K (.ref C) "path" = some none) {f : Addr} {fd : FuncData} (F : Fun K "__init__" "InvalidRule.__init__" s_InvalidRule___init__ f fd) :
    FnOk P w K mg base CX0 1 f fd ["self", "path"] (spX C ["path"] [3]) := by
  refine F.ok sc_InvalidRule___init__ (fun vs H Q E h => ?_) (fun cdv A outer s H vs Q E hr h => ?_)
  · obtain ⟨a, args, ds, rfl, _, _, _, hl, _⟩ := h
    exact congrArg (· + 1) hl
  obtain ⟨a, args, ds, rfl, ha, hr1, hk, hlen, k⟩ := h
  cases hk with
  | @cons _ d0 _ ds0 k0 hk =>
  cases hr1 with
  | @cons v0 _ _ _ r0 hr1 =>
  cases hk
  cases hr1
  obtain ⟨b0, l0, rfl, hb0, hz0, hy0⟩ := ok3 k0 r0
  refine ⟨_, (pss_cons (ps_expr (pe_sinit (by rfl) sup (pa_cons (pv 0) (pa_cons (pe_joined (PJ.cons pe_str (PJ.cons ((pe_fmtI hr) (pv 1)) PJ.nil))) pa_nil))))
  (pss_one (ps_ost (pv 0) (pv 1)))), ?_⟩
  refine seq_drop ⟨_, rfl, js_ok (fun out => ⟨a, C, [.str out], rfl, (by show 1 ≤ 1000; decide), x.oex, ha, ?_⟩) _ _ (fun t ht => ?_) (by show 0 + 3000000 * 2 ≤ 16777216; decide)⟩
  · simp only [List.mem_cons, List.not_mem_nil, or_false] at ht
    rcases ht with rfl | rfl
    · exact part_c (by decide +kernel)
    · exact part_t (K := K) (i := 1) rfl hb0 hz0 hy0
  · refine ⟨_, rfl, _, rfl, a, C, rfl, x.oex, n_path, .inl ⟨ha, fun dx hdx hne => ?_⟩⟩
    have hh := held1N (f := "path") (Ex.refl H) ha hdx hne r0
    exact k _ dx _ (fresh_back (Ex.refl H) hdx) hh.1 hh.2.1 hh.2.2.1 hh.2.2.2

def menuS : List Str := ["near", "far", "reload", "stay", "again", "kept", "lost"]
def menuD : List PyData := [.str "near", .str "far", .str "reload", .str "stay", .str "again", .str "kept", .str "lost", .str "", .str "Near", .none, .bool true, .int 0, .int (10 ^ 30), .tuple [.str "near"], .list [.str "kept"], .str "near ", .str "nearfar"]
abbrev s__law_menu : Stmt := top 17
abbrev N__law_menu : List Str := ["_law_words"]
theorem sc__law_menu : FnScope N__law_menu [] (defScope s__law_menu) := ⟨rfl, rfl, rfl, by decide +kernel, rfl, by decide +kernel, by decide +kernel⟩
def spMenu : Sp := fun vs H Q _ => ∃ M : Addr → Prop, vs = [] ∧ Live M H ∧ ∀ p xs H', H p = none → Ex H H' → H' p = some (.lst xs) → Paired (Rp M H' 1) xs menuD → Q (.ref p) H'
theorem ok_menu (T : Txt K mg) {f : Addr} {fd : FuncData} (F : Fun K "_law_menu" "_law_menu" s__law_menu f fd) : FnOk P w K mg base CX0 1 f fd [] spMenu := by
  refine F.ok sc__law_menu (fun vs H Q E h => ?_) (fun cdv A outer s H vs Q E hr h => ?_)
  · obtain ⟨M, rfl, _⟩ := h
    rfl
  obtain ⟨M, rfl, hM, k⟩ := h
  refine ⟨_, (pss_cons (ps_set (i := 0) sc__law_menu.nd rfl (Or.inl rfl) (pe_lst (pa_cons pe_str (pa_cons pe_str (pa_cons pe_str (pa_cons pe_str (pa_cons pe_str (pa_cons pe_str (pa_cons pe_str pa_nil)))))))))
  (pss_one (ps_ret (pe_op op_cat (pv 0) (pe_lst (pa_cons pe_str (pa_cons pe_str (pa_cons pe_non (pa_cons pe_bl (pa_cons pe_int (pa_cons (pe_op op_pow pe_int pe_int) (pa_cons (pe_tup (pa_cons pe_str pa_nil)) (pa_cons (pe_lst (pa_cons pe_str pa_nil)) (pa_cons pe_str (pa_cons pe_str pa_nil))))))))))))))), ?_⟩
  refine q_asgLPn (As := (menuD.take 7).map (DaM M 1)) (elp_lstM (eap_consM strM (eap_consM strM (eap_consM strM (eap_consM strM (eap_consM strM (eap_consM strM (eap_consM strM eap_nilM))))))) (by decide)) fun p0 xs0 H1 hp0 e1 l1 a1 => ?_
  refine s_retLPn (As := ((menuD.take 7).map (DaM M 1)) ++ ((menuD.drop 7).map (DaM M 1))) (elp_catV (ev_var rfl) l1 a1 (elp_lstM (eap_consM strM (eap_consM strM (eap_consM nonM (eap_consM blM (eap_consM intM (eap_consM (evp_of (ev_op ev_c ev_c (rv_I ⟨by decide, by decide, by decide⟩)) Rp.int (DaM.mono _ _ _)) (eap_consM (evp_tupM (n := 0) (ds := [.str "near"]) (hM.ex e1) (eap_consM strM eap_nilM) (by decide)) (eap_consM (EvLP.daM (n := 0) (ds := [.str "kept"]) (hM.ex e1) (elp_lstM (eap_consM strM eap_nilM) (by decide)) (by decide)) (eap_consM strM (eap_consM strM eap_nilM)))))))))) (by decide)) (Monos.daM _ _ _) (Monos.daM _ _ _) (by show 7 + 10 ≤ 1000; decide)) fun p vs H2 hp e2 l2 a2 => ?_
  exact k p vs H2 (fresh_back e1 hp) (e1.trans e2) l2 (pairs_daM (ds := menuD) a2)

/-- pick from a list of data -/
theorem pick_ok {M : Addr → Prop} {σ : L2.St} {H : Hp} {p : Addr} {te : TE} {ds : List PyData} (hM : Live M H) (hMp : M p) (hP : PoolAt M H p) (hs : σ[0]? = some (some (.ref p))) (h : EvLP te σ H (ds.map (DaM M 1))) (h0 : 0 < ds.length) (h1 : ds.length ≤ 1000)
    {Q : VK} (q : ∀ v d H', d ∈ ds → SmB p H H' → PoolAt M H' p → Live M H' → Rp M H' 1 v d → Q v H') : tCall (spPick K) [] E0 (tCons (tVar 0) (tCons te tNil)) σ H Q :=
  ⟨_, hs, h H (Ex.refl H) _ fun l xs H1 hl e1 l1 a1 => by
    have pa := pairs_daM a1
    have hlen := pair_len pa
    have hlp : l ≠ p := fun z => by
      obtain ⟨o, ho⟩ := hP.some
      rw [z, ho] at hl
      cases hl
    refine ⟨M, p, l, xs, rfl, hM.ex e1, hP.ex e1, sq_of l1, hlp, by omega, by omega, fun v H' hv s P => ?_⟩
    obtain ⟨d, hd, r⟩ := pair_all (P := fun _ => True) pa (fun _ _ => trivial) hv
    exact q v d H' hd ((SmB.of e1).trans s) P ((hM.ex e1).smb s (by
      obtain ⟨o, ho⟩ := P.some
      rw [ho]
      exact fun z => nomatch z)) (r.exM (fun _ z => z) (exM_of s hMp))⟩
theorem elp_menu {M : Addr → Prop} {σ : L2.St} {H : Hp} (hM : Live M H) : EvLP (tCall spMenu [] E0 tNil) σ H (menuD.map (DaM M 1)) := fun H1 e Q q =>
  ⟨M, rfl, hM.ex e, fun p xs H' hp e' l a => q p xs H' hp e' l (pairs_daM' a)⟩
abbrev s__law_value : Stmt := top 18
abbrev N__law_value : List Str := ["_law_pool_here", "_law_shape", "_law_items", "_law_at", "_law_k"]
theorem sc__law_value : FnScope N__law_value ["_law_pool_here"] (defScope s__law_value) := ⟨rfl, rfl, rfl, by decide +kernel, rfl, by decide +kernel, by decide +kernel⟩
/-- a value that the law draws -/
def Drawn (d : PyData) : Prop := d ∈ menuD ∨ ∃ ds : List PyData, (d = .list ds ∨ d = .tuple ds) ∧ ds.length ≤ 4 ∧ ∀ x ∈ ds, x ∈ menuD
def spValue : Sp := fun vs H Q _ => ∃ (p : Addr), vs = [.ref p] ∧ PoolAt M0 H p ∧ ∀ v d H', Drawn d → Rp M0 H' 2 v d → Q v H'
theorem ok_value (T : Txt K mg) (D__law_draw : Df P w K mg base 1 "_law_draw" ["_law_pool_here", "_law_many"] spDraw) (D__law_pick : Df P w K mg base 2 "_law_pick" ["_law_pool_here", "_law_items"] (spPick K)) (D__law_menu : Df P w K mg base 1 "_law_menu" [] spMenu)
    {f : Addr} {fd : FuncData} (F : Fun K "_law_value" "_law_value" s__law_value f fd) : FnOk P w K mg base CX0 3 f fd ["_law_pool_here"] spValue := by
  refine F.ok sc__law_value (fun vs H Q E h => ?_) (fun cdv A outer s H vs Q E hr h => ?_)
  · obtain ⟨p, rfl, _⟩ := h
    rfl
  obtain ⟨p, rfl, hP, k⟩ := h
  refine ⟨_, (pss_cons (ps_set (i := 1) sc__law_value.nd rfl (Or.inl rfl) (pe_call D__law_draw.G (hr.mono (by omega)) rfl D__law_draw.m D__law_draw.kp D__law_draw.b .nil pass0 (pa_cons (pv 0) (pa_cons pe_int pa_nil))))
  (pss_cut (ps_if (pt_cmpR op_eq (pe_call D__law_draw.G (hr.mono (by omega)) rfl D__law_draw.m D__law_draw.kp D__law_draw.b .nil pass0 (pa_cons (pv 0) (pa_cons pe_int pa_nil))) pe_int (nomark _)) (pss_one (ps_setLc (i := 2) (own := [("_law_k", 4)]) (g := (gName 4)) (tt := tYes) rfl sc__law_value.nd rfl rfl (sw_true rfl rfl rfl (by decide +kernel)) (pi_range1 (by rfl) T.b_range (pa_cons (pe_call D__law_draw.G (hr.mono (by omega)) rfl D__law_draw.m D__law_draw.kp D__law_draw.b .nil pass0 (pa_cons (pv 0) (pa_cons pe_int pa_nil))) pa_nil)) (blkOk_by (own := [("_law_k", 4)]) (N := N__law_value) (sc := defScope s__law_value) (by decide +kernel)) (fun _ _ _ _ _ => (pg_name (i := 4) sc__law_value.nd rfl (Or.inl rfl))) (fun _ _ _ _ _ => pts_nil) (fun _ _ _ _ _ => (pe_call D__law_pick.G (hr.mono (by omega)) rfl D__law_pick.m D__law_pick.kp D__law_pick.b .nil pass0 (pa_cons (pv 0) (pa_cons (pe_call0 D__law_menu.G (hr.mono (by omega)) rfl D__law_menu.m D__law_menu.kp D__law_menu.b .nil pass0) pa_nil)))))) (pss_cons (ps_set (i := 2) sc__law_value.nd rfl (Or.inl rfl) (pe_lst (pa_cons (pe_call D__law_pick.G (hr.mono (by omega)) rfl D__law_pick.m D__law_pick.kp D__law_pick.b .nil pass0 (pa_cons (pv 0) (pa_cons (pe_lst (pa_cons pe_str (pa_cons pe_str pa_nil))) pa_nil))) (pa_cons (pe_call D__law_pick.G (hr.mono (by omega)) rfl D__law_pick.m D__law_pick.kp D__law_pick.b .nil pass0 (pa_cons (pv 0) (pa_cons (pe_lst (pa_cons pe_str (pa_cons pe_str (pa_cons pe_str pa_nil)))) pa_nil))) pa_nil))))
  (pss_cons (ps_expr (pe_bm PySem.F.plainAttrs_list PySem.F.slot_list_append PySem.F.type_list_append mt_append (pv 2) (pa_cons (pe_call D__law_pick.G (hr.mono (by omega)) rfl D__law_pick.m D__law_pick.kp D__law_pick.b .nil pass0 (pa_cons (pv 0) (pa_cons (pe_lst (pa_cons pe_str (pa_cons pe_str pa_nil))) pa_nil))) pa_nil)))
  (pss_cons (ps_set (i := 3) sc__law_value.nd rfl (Or.inl rfl) (pe_call D__law_draw.G (hr.mono (by omega)) rfl D__law_draw.m D__law_draw.kp D__law_draw.b .nil pass0 (pa_cons (pv 0) (pa_cons pe_int pa_nil))))
  (pss_one (ps_if (pt_cmpR op_lt (pv 3) pe_int (nomark _)) (pss_one (ps_asg (pe_call D__law_pick.G (hr.mono (by omega)) rfl D__law_pick.m D__law_pick.kp D__law_pick.b .nil pass0 (pa_cons (pv 0) (pa_cons (pe_call0 D__law_menu.G (hr.mono (by omega)) rfl D__law_menu.m D__law_menu.kp D__law_menu.b .nil pass0) pa_nil))) (pg_sub (pv 2) (pv 3) set_list))) pss_nil))))))
  (pss_cons (ps_if (pt_cmpR op_eq (pv 1) pe_int (nomark _)) (pss_one (ps_ret (pe_callTy call_list_of (by rfl) T.b_list (by decide +kernel) (pa_cons (pv 2) pa_nil)))) pss_nil)
  (pss_cons (ps_if (PW.pt (pw_and (pt_cmpR op_eq (pv 1) pe_int (nomark _)) (pw_and1 (pt_cmpR op_gt (pe_callB call_len_seq (by rfl) T.b_len (by decide +kernel) (pa_cons (pv 2) pa_nil)) pe_int (nomark _))))) (pss_one (ps_ret (pe_ix ix_list (pv 2) pe_int (fun _ _ => rfl)))) pss_nil)
  (pss_one (ps_ret (pe_callTy call_tuple_of (by rfl) T.b_tuple (by decide +kernel) (pa_cons (pv 2) pa_nil)))))))), ?_⟩
  have hO : ∀ {M : Addr → Prop} {H : Hp}, PoolAt M H p → H p ≠ none := fun P q => by
    obtain ⟨o, ho⟩ := P.some
    rw [ho] at q
    cases q
  have ne : ∀ {M : Addr → Prop} {H : Hp} {t : Addr}, PoolAt M H p → H t = none → t ≠ p := fun P h z => hO P (by rw [← z]; exact h)
  have Lp : ∀ {M : Addr → Prop} {H : Hp}, PoolAt M H p → Live (fun a => a = p) H := fun P a z => by
    rw [z]
    exact hO P
  have Pp : ∀ {H : Hp}, PoolAt M0 H p → PoolAt (fun a => a = p) H p := fun P => by
    obtain ⟨g, s, gs, ss, cur, cnt, P⟩ := P
    exact ⟨g, s, gs, ss, cur, cnt, P.obj, P.great, P.small, P.gpos, P.srng, P.cur0, P.cnt0, P.ng, P.ns⟩
  refine ⟨_, rfl, M0, p, 6, rfl, (fun _ z => z.elim), hP, by decide, lgs (by decide), fun sh H1 _ _ s1 P1 => ?_⟩
  show tSeq _ _ _ _ _
  refine q_cut (M := fun σ' H' => ∃ L xs ds x3 x4, σ' = [some (.ref p), some (.int sh), some (.ref L), x3, x4] ∧ H' L = some (.lst xs) ∧ Paired (Rp M0 H' 1) xs ds ∧ ds.length ≤ 4 ∧ ∀ d ∈ ds, d ∈ menuD) ?_ ?_
  · refine ⟨_, rfl, M0, p, 2, rfl, (fun _ z => z.elim), P1, by decide, lgs (by decide), fun c H2 _ _ s2 P2 => ?_⟩
    refine ⟨rfl, _, rfl, ?_⟩
    refine ite2 (fun _ => ?_) (fun _ => ?_)
    · refine ⟨_, rfl, M0, p, 5, rfl, (fun _ z => z.elim), P2, by decide, lgs (by decide), fun n H3 n0 n1 s3 P3 => ?_⟩
      refine ⟨n, rfl, by omega, by omega, fun D hD => ?_⟩
      have hDp : D ≠ p := ne P3 hD
      refine lc_range (lo := 0) (n := n.toNat) (fun i H' => PoolAt (fun a => a = p ∨ a = D) H' p ∧ ∃ xs ds, H' D = some (.lst xs) ∧ ds.length = i ∧ Paired (Rp (fun a => a = p ∨ a = D) H' 1) xs ds ∧ ∀ d ∈ ds, d ∈ menuD)
        ⟨((Pp P3).addM (N := fun a => a = p ∨ a = D) fun a z => z.imp id fun z => by rw [z]; exact hD).upd (.inr rfl) hDp.symm, [], [], upd_same, rfl, .nil, fun d z => absurd z List.not_mem_nil⟩ ?_ ?_
      · rintro i H4 hi ⟨P4, xs, ds, hD4, hl, pr, hm⟩
        have L4 : Live (fun a => a = p ∨ a = D) H4 := fun a z => by
          rcases z with z | z
          · rw [z]
            exact hO P4
          · rw [z, hD4]
            exact fun q => nomatch q
        refine ⟨rfl, yes_if ?_⟩
        refine pick_ok (M := fun a => a = p ∨ a = D) L4 (.inl rfl) P4 rfl (elp_menu L4) (by decide) (by decide) fun v d H5 hd s5 P5 L5 r5 => ?_
        have hx := pair_len pr
        refine ⟨xs, s5 _ _ hDp hD4, small1000 (by omega), P5.upd (.inr rfl) hDp.symm, xs ++ [v], ds ++ [d], upd_same, by rw [List.length_append, List.length_singleton, hl], ?_, ?_⟩
        · have eu : ExM (fun a => a = p ∨ a = D) H5 (upd H5 D (.lst (xs ++ [v]))) := ExM.upd (.inr rfl)
          exact pairs_app (Paired.mapP pr fun _ _ z => z.exM (fun _ q => q) ((exM_of s5 (.inl rfl)).trans eu)) (.cons (r5.exM (fun _ q => q) eu) .nil)
        · intro e he
          rcases List.mem_append.mp he with q | q
          · exact hm e q
          · have z : e = d := by simpa using q
            rw [z]
            exact hd
      · rintro H4 ⟨P4, xs, ds, hD4, hl, pr, hm⟩
        exact ⟨D, xs, ds, _, _, rfl, hD4, Paired.mapP pr fun _ _ z => z.w0, by omega, hm⟩
    · refine pick_ok (M := fun a => a = p) (ds := [.str "near", .str "far"]) (Lp P2) rfl (Pp P2) rfl (elp_lstM (eap_consM strM (eap_consM strM eap_nilM)) (by decide)) (by decide) (by decide) fun v1 d1 H3 hd1 s3 P3 L3 r1 => ?_
      refine pick_ok (M := fun a => a = p) (ds := [.str "reload", .str "stay", .str "again"]) L3 rfl P3 rfl (elp_lstM (eap_consM strM (eap_consM strM (eap_consM strM eap_nilM))) (by decide)) (by decide) (by decide) fun v2 d2 H4 hd2 s4 P4 L4 r2 => ?_
      refine ⟨(by show 2 ≤ sizeLine; decide), fun L hL => ?_⟩
      have hLp : L ≠ p := ne P4 hL
      have P5 : PoolAt (fun a => a = p ∨ a = L) (upd H4 L (.lst [v1, v2])) p := (P4.addM (N := fun a => a = p ∨ a = L) fun a z => z.imp id fun z => by rw [z]; exact hL).upd (.inr rfl) hLp.symm
      have lift : ∀ {v : V} {d : PyData}, Rp (fun a => a = p) H4 1 v d → Rp (fun a => a = p ∨ a = L) (upd H4 L (.lst [v1, v2])) 1 v d := fun r => (r.addM (N := fun a => a = p ∨ a = L) fun a z => z.imp id fun z => by rw [z]; exact hL).ex (Ex.new hL)
      have r1' := lift (r1.exM (fun _ z => z) (exM_of (M := fun a => a = p) s4 rfl))
      have r2' := lift r2
      have hL5 : (upd H4 L (.lst [v1, v2])) L = some (.lst [v1, v2]) := upd_same
      generalize upd H4 L (.lst [v1, v2]) = H5 at P5 r1' r2' hL5
      have live : ∀ {H : Hp} {xs : List V}, PoolAt (fun a => a = p ∨ a = L) H p → H L = some (.lst xs) → Live (fun a => a = p ∨ a = L) H := fun P h a z => by
        rcases z with z | z
        · rw [z]
          exact hO P
        · rw [z, h]
          exact fun q => nomatch q
      refine ⟨_, rfl, .inl ⟨rfl, _, sq_of hL5⟩, ?_⟩
      refine pick_ok (M := fun a => a = p ∨ a = L) (ds := [.str "kept", .str "lost"]) (live P5 hL5) (.inl rfl) P5 rfl (elp_lstM (eap_consM strM (eap_consM strM eap_nilM)) (by decide)) (by decide) (by decide) fun v3 d3 H6 hd3 s6 P6 L6 r3 => ?_
      have hL6 := s6 _ _ hLp hL5
      refine ⟨L, _, v3, rfl, rfl, hL6, (by show 2 < sizeLine; decide), ?_⟩
      have P7 : PoolAt (fun a => a = p ∨ a = L) (upd H6 L (.lst ([v1, v2] ++ [v3]))) p := P6.upd (.inr rfl) hLp.symm
      have pr : Paired (Rp (fun a => a = p ∨ a = L) (upd H6 L (.lst ([v1, v2] ++ [v3]))) 1) [v1, v2, v3] [d1, d2, d3] := by
        have eu : ExM (fun a => a = p ∨ a = L) H6 (upd H6 L (.lst ([v1, v2] ++ [v3]))) := ExM.upd (.inr rfl)
        have e6 : ExM (fun a => a = p ∨ a = L) H5 H6 := exM_of s6 (.inl rfl)
        exact .cons (r1'.exM (fun _ q => q) (e6.trans eu)) (.cons (r2'.exM (fun _ q => q) (e6.trans eu)) (.cons (r3.exM (fun _ q => q) eu) .nil))
      have hL7 : (upd H6 L (.lst ([v1, v2] ++ [v3]))) L = some (.lst [v1, v2, v3]) := upd_same
      generalize upd H6 L (.lst ([v1, v2] ++ [v3])) = H7 at P7 pr hL7
      have hm : ∀ d ∈ [d1, d2, d3], d ∈ menuD := by
        simp only [List.mem_cons, List.not_mem_nil, or_false] at hd1 hd2 hd3
        intro d hd
        simp only [List.mem_cons, List.not_mem_nil, or_false] at hd
        rcases hd with rfl | rfl | rfl
        · rcases hd1 with rfl | rfl <;> simp [menuD]
        · rcases hd2 with rfl | rfl | rfl <;> simp [menuD]
        · rcases hd3 with rfl | rfl <;> simp [menuD]
      refine ⟨_, rfl, fun a => a = p ∨ a = L, p, 6, rfl, live P7 hL7, P7, by decide, lgs (by decide), fun t H8 t0 t1 s8 P8 => ?_⟩
      obtain ⟨j, rfl⟩ : ∃ j : Nat, t = (j : Int) := ⟨t.toNat, by omega⟩
      have hL8 := s8 _ _ hLp hL7
      have pr8 : Paired (Rp (fun a => a = p ∨ a = L) H8 1) [v1, v2, v3] [d1, d2, d3] := Paired.mapP pr fun _ _ z => z.exM (fun _ q => q) (exM_of s8 (.inl rfl))
      refine ⟨_, rfl, _, _, rfl, rfl, _, rfl, ?_⟩
      refine ite2 (fun hb => ?_) (fun _ => ?_)
      · have hj : j < 3 := by
          have z := of_decide_eq_true hb
          omega
        refine pick_ok (M := fun a => a = p ∨ a = L) (live P8 hL8) (.inl rfl) P8 rfl (elp_menu (live P8 hL8)) (by decide) (by decide) fun v4 d4 H9 hd4 s9 P9 L9 r4 => ?_
        have hL9 := s9 _ _ hLp hL8
        refine ⟨_, rfl, _, rfl, L, _, (j : Int), j, rfl, rfl, hL9, ixN_nat hj, ?_⟩
        have eu : ExM (fun a => a = p ∨ a = L) H9 (upd H9 L (.lst ([v1, v2, v3].set j v4))) := ExM.upd (.inr rfl)
        refine ⟨L, _, [d1, d2, d3].set j d4, _, _, rfl, upd_same, pairs_set (r4.exM (fun _ q => q.elim) eu) j (Paired.mapP pr8 fun _ _ z => z.exM (fun _ q => q.elim) ((exM_of s9 (.inl rfl)).trans eu)), by rw [List.length_set]; show 3 ≤ 4; decide, fun d hd => ?_⟩
        rcases List.mem_or_eq_of_mem_set hd with q | q
        · exact hm d q
        · rw [q]
          exact hd4
      · exact ⟨L, _, [d1, d2, d3], _, _, rfl, hL8, Paired.mapP pr8 fun _ _ z => z.w0, by show 3 ≤ 4; decide, hm⟩
  · rintro σ' H2 ⟨L, xs, ds, x3, x4, rfl, hL, pr, hl, hm⟩
    have hx := pair_len pr
    refine q_when (et_test (ev_op (ev_var rfl) ev_c (rv_eq rfl))) (fun _ H3 e3 => ?_) (fun _ H3 e3 => ?_)
    · exact ret_ (cb1 ⟨_, rfl, L, xs, rfl, .inl (sq_of (e3 _ _ hL)), fun l hl' => k _ (.list ds) _ (.inr ⟨ds, .inl rfl, hl, hm⟩) ⟨xs, upd_same, by omega, Paired.mapP pr fun _ _ z => z.ex (e3.trans (Ex.new hl')), fun z => z⟩⟩)
    refine q_when (et_and (et_test (ev_op (ev_var rfl) ev_c (rv_eq rfl))) fun _ => et_test (ev_op (ev_lenL (ev_var rfl) (sq_of (e3 _ _ hL))) ev_c rv_I0)) (fun hb H4 e4 => ?_) (fun _ H4 e4 => ?_)
    · have h0 : 0 < xs.length := by
        have z := of_decide_eq_true (Bool.and_eq_true_iff.mp hb).2
        omega
      obtain ⟨d, hd, r⟩ := pair_at pr (List.getElem?_eq_getElem h0)
      have e24 := e3.trans e4
      exact s_ret (ev_op (ev_var rfl) ev_c (rv_ixL (sq_of (e24 _ _ hL)) (at_of (j := 0) rfl (List.getElem?_eq_getElem h0)))) fun H5 e5 => k _ d H5 (.inl (hm d (List.mem_of_getElem? hd))) (r.ex (e24.trans e5)).up
    · have e24 := e3.trans e4
      exact ret_ (cb1 ⟨_, rfl, L, xs, rfl, .inl ⟨sq_of (e24 _ _ hL), fun l hl' => k _ (.tuple ds) _ (.inr ⟨ds, .inr rfl, hl, hm⟩) ⟨xs, upd_same, by omega, Paired.mapP pr fun _ _ z => z.ex (e24.trans (Ex.new hl')), fun z => z⟩⟩⟩)
def inW (ws : List PyData) (d : PyData) : Bool := ws.any fun z => PyData.eqv z d
def badR : PyData → Option (List Int)
  | .tuple [a, b, c] => if inW [.str "near", .str "far"] a = false then some [0] else if inW [.str "reload", .str "stay", .str "again"] b = false then some [1] else if inW [.str "kept", .str "lost"] c = false then some [2] else none
  | _ => some []
def dueD (d : PyData) : PyData := match badR d with
  | some p => .tuple [.str "refused", .tuple (p.map .int)]
  | none => .tuple [.str "told", .none]
/-- such data may be compared -/
def Small : PyData → Prop
  | .tuple ds => ∀ x ∈ ds, SeqAt.shaped x = true
  | _ => True
abbrev s__law_due : Stmt := top 19
abbrev N__law_due : List Str := ["_law_value_here"]
theorem sc__law_due : FnScope N__law_due ["_law_value_here"] (defScope s__law_due) := ⟨rfl, rfl, rfl, by decide +kernel, rfl, by decide +kernel, by decide +kernel⟩
def spDue : Sp := fun vs H Q _ => ∃ (v : V) (d : PyData), vs = [v] ∧ Rp M0 H 2 v d ∧ Small d ∧ ∀ r H', Ex H H' → Rp M0 H' 2 r (dueD d) → Q r H'
theorem ok_due (T : Txt K mg) {f : Addr} {fd : FuncData} (F : Fun K "_law_due" "_law_due" s__law_due f fd) : FnOk P w K mg base CX0 1 f fd ["_law_value_here"] spDue := by
  refine F.ok sc__law_due (fun vs H Q E h => ?_) (fun cdv A outer s H vs Q E hr h => ?_)
  · obtain ⟨v, d, rfl, _⟩ := h
    rfl
  obtain ⟨v, d, rfl, hv, hs, k⟩ := h
  refine ⟨_, (pss_cons (ps_if (PW.pt (pw_or (pt_not (pt_val (pe_callB call_isi (by rfl) T.b_isinstance (by decide +kernel) (pa_cons (pv 0) (pa_cons (pe_bltn (v := .ty "tuple") (by rfl) T.b_tuple (by decide +kernel) rfl) pa_nil))))) (pw_or1 (pt_cmpR op_ne (pe_callB call_len_seq (by rfl) T.b_len (by decide +kernel) (pa_cons (pv 0) pa_nil)) pe_int (nomark _))))) (pss_one (ps_ret (pe_tup (pa_cons pe_str (pa_cons (pe_tup pa_nil) pa_nil))))) pss_nil)
  (pss_cons (ps_if (pt_cmpR (op_notInD (u65 hr)) (pe_ix ix_tup (pv 0) pe_int (fun _ _ => rfl)) (pe_lst (pa_cons pe_str (pa_cons pe_str pa_nil))) (by rfl)) (pss_one (ps_ret (pe_tup (pa_cons pe_str (pa_cons (pe_tup (pa_cons pe_int pa_nil)) pa_nil))))) pss_nil)
  (pss_cons (ps_if (pt_cmpR (op_notInD (u65 hr)) (pe_ix ix_tup (pv 0) pe_int (fun _ _ => rfl)) (pe_lst (pa_cons pe_str (pa_cons pe_str (pa_cons pe_str pa_nil)))) (by rfl)) (pss_one (ps_ret (pe_tup (pa_cons pe_str (pa_cons (pe_tup (pa_cons pe_int pa_nil)) pa_nil))))) pss_nil)
  (pss_cons (ps_if (pt_cmpR (op_notInD (u65 hr)) (pe_ix ix_tup (pv 0) pe_int (fun _ _ => rfl)) (pe_lst (pa_cons pe_str (pa_cons pe_str pa_nil))) (by rfl)) (pss_one (ps_ret (pe_tup (pa_cons pe_str (pa_cons (pe_tup (pa_cons pe_int pa_nil)) pa_nil))))) pss_nil)
  (pss_one (ps_ret (pe_tup (pa_cons pe_str (pa_cons pe_non pa_nil))))))))), ?_⟩
  by_cases h3 : ∃ a b c, d = .tuple [a, b, c]
  · obtain ⟨a, b, c, rfl⟩ := h3
    have sa : SeqAt.shaped a = true := hs a (by simp)
    have sb : SeqAt.shaped b = true := hs b (by simp)
    have sc : SeqAt.shaped c = true := hs c (by simp)
    refine q_when (b := false) (et_is (et_or (et_not (et_B (ev_isi (ev_var rfl) hv (.inl rfl)))) fun _ => et_test (ev_op (ev_lenD (ev_var rfl) hv) ev_c (rv_ne rfl))) rfl) (fun z => Bool.noConfusion z) (fun _ H1 e1 => ?_)
    obtain ⟨u0, r0, g0⟩ := ev_ixT (K := K) (i := 0) (ev_var (i := 0) rfl) (hv.ex e1) (ev_c (H := H1) (σ := L2.start N__law_due [v])) rfl
    refine q_when (et_test (ev_notInL (ds := [.str "near", .str "far"]) g0 r0 sa (elp_lstM (eap_consM strM (eap_consM strM eap_nilM)) (by decide)) (by decide +kernel) (by decide))) (fun hb H2 e2 => ?_) (fun hb H2 e2 => ?_)
    · have z : dueD (.tuple [a, b, c]) = .tuple [.str "refused", .tuple [.int 0]] := by
        have hb' : inW [.str "near", .str "far"] a = false := notT hb
        unfold dueD badR
        simp only [hb', if_true] <;> rfl
      exact s_retP (evp_tup2 (n := 1) evp_str (evp_tup1 (n := 0) evp_int)) fun r H3 e3 hr3 => k r H3 ((e1.trans e2).trans e3) (by rw [z]; exact hr3)
    have b0 : inW [.str "near", .str "far"] a = true := notF hb
    obtain ⟨u1, r1, g1⟩ := ev_ixT (K := K) (i := 1) (ev_var (i := 0) rfl) (hv.ex (e1.trans e2)) (ev_c (H := H2) (σ := L2.start N__law_due [v])) rfl
    refine q_when (et_test (ev_notInL (ds := [.str "reload", .str "stay", .str "again"]) g1 r1 sb (elp_lstM (eap_consM strM (eap_consM strM (eap_consM strM eap_nilM))) (by decide)) (by decide +kernel) (by decide))) (fun hb H3 e3 => ?_) (fun hb H3 e3 => ?_)
    · have z : dueD (.tuple [a, b, c]) = .tuple [.str "refused", .tuple [.int 1]] := by
        have hb' : inW [.str "reload", .str "stay", .str "again"] b = false := notT hb
        unfold dueD badR
        simp only [b0, hb'] <;> rfl
      exact s_retP (evp_tup2 (n := 1) evp_str (evp_tup1 (n := 0) evp_int)) fun r H4 e4 hr4 => k r H4 ((e1.trans e2).trans (e3.trans e4)) (by rw [z]; exact hr4)
    have b1 : inW [.str "reload", .str "stay", .str "again"] b = true := notF hb
    obtain ⟨u2, r2, g2⟩ := ev_ixT (K := K) (i := 2) (ev_var (i := 0) rfl) (hv.ex ((e1.trans e2).trans e3)) (ev_c (H := H3) (σ := L2.start N__law_due [v])) rfl
    refine q_when (et_test (ev_notInL (ds := [.str "kept", .str "lost"]) g2 r2 sc (elp_lstM (eap_consM strM (eap_consM strM eap_nilM)) (by decide)) (by decide +kernel) (by decide))) (fun hb H4 e4 => ?_) (fun hb H4 e4 => ?_)
    · have z : dueD (.tuple [a, b, c]) = .tuple [.str "refused", .tuple [.int 2]] := by
        have hb' : inW [.str "kept", .str "lost"] c = false := notT hb
        unfold dueD badR
        simp only [b0, b1, hb'] <;> rfl
      exact s_retP (evp_tup2 (n := 1) evp_str (evp_tup1 (n := 0) evp_int)) fun r H5 e5 hr5 => k r H5 ((e1.trans e2).trans ((e3.trans e4).trans e5)) (by rw [z]; exact hr5)
    have z : dueD (.tuple [a, b, c]) = .tuple [.str "told", .none] := by
      have hb' : inW [.str "kept", .str "lost"] c = true := notF hb
      unfold dueD badR
      simp only [b0, b1, hb'] <;> rfl
    exact s_retP (evp_tup2 (n := 1) evp_str evp_non) fun r H5 e5 hr5 => k r H5 ((e1.trans e2).trans ((e3.trans e4).trans e5)) (by rw [z]; exact hr5)
  · have z : dueD d = .tuple [.str "refused", .tuple []] := by
      cases d with
      | tuple ds =>
        match ds, h3 with
        | [], _ => rfl
        | [_], _ => rfl
        | [_, _], _ => rfl
        | [a, b, c], h3 => exact (h3 ⟨a, b, c, rfl⟩).elim
        | _ :: _ :: _ :: _ :: _, _ => rfl
      | _ => rfl
    have te : ∀ {te : TE} {σ : L2.St}, te σ H (fun _ _ => True) → True := fun _ => trivial
    have out : ∀ {H1 : Hp}, Ex H H1 → tRet (tTup (tCons (tC (.str "refused")) (tCons (tTup tNil) tNil))) { nx := fun _ H' => Q .non H', rt := Q } (L2.start N__law_due [v]) H1 := fun e1 =>
      s_retP (evp_tup2 (n := 1) evp_str (evp_tup0 (n := 0))) fun r H2 e2 r2 => k r H2 (e1.trans e2) (by rw [z]; exact r2)
    cases d with
    | tuple ds =>
      have hl : ds.length ≠ 3 := fun q => by
        match ds, q with
        | [a, b, c], _ => exact h3 ⟨a, b, c, rfl⟩
      exact q_when (b := true) (et_is (et_or (et_not (et_B (ev_isi (ev_var rfl) hv (.inl rfl)))) fun _ => et_test (ev_op (ev_lenD (ev_var rfl) hv) ev_c (rv_ne rfl))) (by simp [isA]; omega)) (fun _ H1 e1 => out e1) (fun z => Bool.noConfusion z)
    | _ => exact q_when (b := true) (et_is (et_or (b := true) (et_not (et_B (ev_isi (ev_var rfl) hv (.inl rfl)))) fun z => absurd z (by simp [isA])) (by simp [isA])) (fun _ H1 e1 => out e1) (fun z => Bool.noConfusion z)
def spCheck (C : Addr) : Sp := fun vs H Q E => ∃ (v : V) (d : PyData), vs = [v] ∧ Rp M0 H 2 v d ∧ Small d ∧ (badR d = none → ∀ H', Ex H H' → Q .non H') ∧ ∀ p, badR d = some p → ∀ dd H', Ex H H' → Flying ["path"] [.tuple (p.map .int)] dd H' → E (.ref C) dd H'
abbrev s__law_asked : Stmt := top 20
abbrev N__law_asked : List Str := ["_law_value_here", "_law_found", "e"]
theorem sc__law_asked : FnScope N__law_asked ["_law_value_here"] (defScope s__law_asked) := ⟨rfl, rfl, rfl, by decide +kernel, rfl, by decide +kernel, by decide +kernel⟩
theorem ok_asked (T : Txt K mg) {C S : Addr} (X_InvalidRule : XD P w K mg base 1 "InvalidRule" C S ["self", "path"] (spX C ["path"] [3])) (n_path : PySem.W.findIn K (.ref C) "path" = some none)
    (D_check_rule : DfX P w K mg base 3 "check_rule" ["value"] (spCheck C)) {f : Addr} {fd : FuncData} (F : Fun K "_law_asked" "_law_asked" s__law_asked f fd) : FnOk P w K mg base CX0 4 f fd ["_law_value_here"] spDue := by
  refine F.ok sc__law_asked (fun vs H Q E h => ?_) (fun cdv A outer s H vs Q E hr h => ?_)
  · obtain ⟨v, d, rfl, _⟩ := h
    rfl
  obtain ⟨v, d, rfl, hv, hs, k⟩ := h
  refine ⟨_, (pss_cut (ps_try_as (i := 2) (Wout := fun _ _ _ _ => False) rfl rfl sc__law_asked.nd rfl rfl ⟨rfl, by decide, .inl X_InvalidRule.gC⟩ takes0 (fun W pn xe tk _ => (pss_one (ps_set (i := 1) sc__law_asked.nd rfl (Or.inl rfl) (pe_tup (pa_cons pe_str (pa_cons (pe_callS D_check_rule.G (hr.mono (by omega)) rfl D_check_rule.m D_check_rule.kp D_check_rule.b (fun σ => passAt tk σ) (by exact (pa_cons (pv 0) pa_nil))) pa_nil))))))
  (fun a oe cls d pn hz hf => (pss_one (ps_set (i := 1) sc__law_asked.nd rfl (Or.inl rfl) (pe_tup (pa_cons pe_str (pa_cons (pe_xf (C := C) X_InvalidRule.xc.xf n_path hz hf (pv 2)) pa_nil)))))))
  (pss_one (ps_ret (pv 1)))), ?_⟩
  have hC : PySem.W.exmOne K (.ref C) (.ref C) = some true := by rw [X_InvalidRule.xc.exm X_InvalidRule.xc]; simp
  refine q_cut (M := fun σ' H' => ∃ r x2, σ' = [some v, some r, x2] ∧ Rp M0 H' 2 r (dueD d) ∧ Ex H H') ?_ ?_
  · refine ⟨_, rfl, v, d, rfl, hv, hs, fun hn H1 e1 => ?_, fun p hp dd H1 e1 fly => ?_⟩
    · refine ⟨(by show 2 ≤ sizeLine; decide), fun t ht => ?_⟩
      have z : dueD d = .tuple [.str "told", .none] := by
        unfold dueD
        rw [hn]
      refine ⟨.ref t, _, rfl, ?_, e1.trans (Ex.new ht)⟩
      rw [z]
      exact ⟨_, upd_same, by show 2 ≤ 1000; decide, .cons Rp.str (.cons Rp.non .nil), fun z => z⟩
    · refine ⟨true, hC, fun _ a ha => ?_, fun z => Bool.noConfusion z⟩
      obtain ⟨dx, fs, rfl, hdx, hf⟩ := fly
      obtain ⟨u, hu, r⟩ := hf 0 "path" _ rfl rfl
      refine ⟨_, rfl, rfl, rfl, dx, fs, u, rfl, hdx, hu, (by show 2 ≤ sizeLine; decide), fun t ht => ?_⟩
      have z : dueD d = .tuple [.str "refused", .tuple (p.map .int)] := by
        unfold dueD
        rw [hp]
      refine ⟨.ref t, _, rfl, ?_, e1.trans (Ex.new ht)⟩
      rw [z]
      exact ⟨_, upd_same, by show 2 ≤ 1000; decide, .cons Rp.str (.cons (r.ex (Ex.new ht)) .nil), fun z => z⟩
  · rintro σ' H1 ⟨r, x2, rfl, hr1, e1⟩
    exact ⟨_, rfl, k _ _ e1 hr1⟩
abbrev s__law_by_base : Stmt := top 21
abbrev N__law_by_base : List Str := ["_law_value_here", "_law_found", "e"]
theorem sc__law_by_base : FnScope N__law_by_base ["_law_value_here"] (defScope s__law_by_base) := ⟨rfl, rfl, rfl, by decide +kernel, rfl, by decide +kernel, by decide +kernel⟩
def spBy : Sp := fun vs H Q _ => ∃ (v : V) (d : PyData), vs = [v] ∧ Rp M0 H 2 v d ∧ Small d ∧ ∀ H', Ex H H' → Q (.str (if (badR d).isSome then "refused" else "told")) H'
theorem ok_by (T : Txt K mg) (ob : Obc K) {C G S : Addr} (hCG : C ≠ G) (hGS : G ≠ S) (sc : SC K S) (hSB : PySem.W.subIn K (.ref S) (.type "BaseException") = some true) (sup : Sup K mg "SwapError" S) (x_InvalidGraph : XC K G S) (g_InvalidGraph : mg "InvalidGraph" = some (.ref G)) (X_InvalidRule : XD P w K mg base 1 "InvalidRule" C S ["self", "path"] (spX C ["path"] [3]))
    (D_check_rule : DfX P w K mg base 3 "check_rule" ["value"] (spCheck C)) {f : Addr} {fd : FuncData} (F : Fun K "_law_by_base" "_law_by_base" s__law_by_base f fd) : FnOk P w K mg base CX0 4 f fd ["_law_value_here"] spBy := by
  refine F.ok sc__law_by_base (fun vs H Q E h => ?_) (fun cdv A outer s H vs Q E hr h => ?_)
  · obtain ⟨v, d, rfl, _⟩ := h
    rfl
  obtain ⟨v, d, rfl, hv, hs, k⟩ := h
  refine ⟨_, (pss_cut (ps_try_as (i := 2) (Wout := fun _ _ _ _ => False) rfl rfl sc__law_by_base.nd rfl rfl ⟨rfl, by decide, .inl sup.g⟩ takes0 (fun W pn xe tk _ => (pss_cons (ps_expr (pe_callS D_check_rule.G (hr.mono (by omega)) rfl D_check_rule.m D_check_rule.kp D_check_rule.b (fun σ => passAt tk σ) (by exact (pa_cons (pv 0) pa_nil))))
  (pss_one (ps_set (i := 1) sc__law_by_base.nd rfl (Or.inl rfl) pe_str))))
  (fun a oe cls d pn hz hf => (pss_cons (ps_set (i := 1) sc__law_by_base.nd rfl (Or.inl rfl) pe_str)
  (pss_one (ps_if (PW.pt (pw_and (pt_val (pe_callB (call_isD rfl hz hf) (by rfl) T.b_isinstance (by decide +kernel) (pa_cons (pv 2) (pa_cons (pe_glob (v := .ref C) (by rfl) X_InvalidRule.gC rfl) pa_nil)))) (pw_and (pt_val (pe_callB (call_isD rfl hz hf) (by rfl) T.b_isinstance (by decide +kernel) (pa_cons (pv 2) (pa_cons (pe_bltn (v := .ty "ValueError") (by rfl) T.b_ValueError (by decide +kernel) rfl) pa_nil)))) (pw_and1 (pt_not (pt_val (pe_callB (call_isD rfl hz hf) (by rfl) T.b_isinstance (by decide +kernel) (pa_cons (pv 2) (pa_cons (pe_glob (v := .ref G) (by rfl) g_InvalidGraph rfl) pa_nil))))))))) (pss_one (ps_set (i := 1) sc__law_by_base.nd rfl (Or.inl rfl) pe_str)) pss_nil)))))
  (pss_one (ps_ret (pv 1)))), ?_⟩
  refine q_cut (M := fun σ' H' => ∃ x2, σ' = [some v, some (.str (if (badR d).isSome then "refused" else "told")), x2] ∧ Ex H H') ?_ ?_
  · refine ⟨_, rfl, v, d, rfl, hv, hs, fun hn H1 e1 => ?_, fun p hp dd H1 e1 fly => ?_⟩
    · exact ⟨_, by rw [hn]; rfl, e1⟩
    · refine ⟨true, X_InvalidRule.xc.exmS sc hSB, fun _ a ha => ?_, fun z => Bool.noConfusion z⟩
      obtain ⟨dx, fs, rfl, hdx, hf⟩ := fly
      refine q_asg ev_c fun H2 e2 => ?_
      have hdx2 := e2 _ _ hdx
      have k1 := X_InvalidRule.xc.kit X_InvalidRule.xc
      have k3 := X_InvalidRule.xc.kit x_InvalidGraph
      have ec := X_InvalidRule.xc.ec ob
      refine s_when (b := true) (et_is (et_and (et_B (ev_isD rfl hdx2 ec (.own C) k1)) fun _ => et_and (et_B (ev_isD rfl hdx2 ec (.ty "ValueError") X_InvalidRule.xc.kitTy)) fun _ => et_not (et_B (ev_isD rfl hdx2 ec (.own G) k3))) (by simp [hCG.symm, hGS])) (fun _ H3 e3 => ?_) (fun z => Bool.noConfusion z)
      refine s_asg ev_c fun H4 e4 => ?_
      exact ⟨_, by rw [hp]; rfl, e1.trans (e2.trans (e3.trans e4))⟩
  · rintro σ' H1 ⟨x2, rfl, e1⟩
    exact ⟨_, rfl, k _ e1⟩
def row01 (o p d : Str) : PyData := .tuple [.str o, .str p, .str d]
def rulesD : List PyData := [row01 "near" "reload" "kept", row01 "near" "reload" "lost", row01 "near" "stay" "kept", row01 "near" "stay" "lost", row01 "near" "again" "kept", row01 "near" "again" "lost",
  row01 "far" "reload" "kept", row01 "far" "reload" "lost", row01 "far" "stay" "kept", row01 "far" "stay" "lost", row01 "far" "again" "kept", row01 "far" "again" "lost"]
def spAll : Sp := fun vs H Q _ => vs = [] ∧ ∀ p xs H', H p = none → Ex H H' → H' p = some (.lst xs) → Paired (Rp M0 H' 1) xs rulesD → Q (.ref p) H'
abbrev s_law : Stmt := top 22
abbrev N_law : List Str := ["_law_script", "_law_pool_here", "_law_value_here", "_law_due_here", "_law_rows", "_law_order", "_law_past", "_law_told", "_law_row"]
theorem sc_law : FnScope N_law ["_law_script"] (defScope s_law) := ⟨rfl, rfl, rfl, by decide +kernel, rfl, by decide +kernel, by decide +kernel⟩
def spLaw (K : PySem.W.Frag) : Sp := fun vs H Q _ => ∃ (a : Addr) (ns : List Int), vs = [.ref a] ∧ SqL K H a (ns.map V.int) ∧ ns.length ≤ 63 ∧ ∀ H', Q (.bl true) H'
theorem et_same {σ : L2.St} {H : Hp} {ta tb : TE} {d : PyData} (ha : EvP ta σ H (Da 3 d)) (hb : EvP tb σ H (Da 3 d)) : EvT (tB (tCall (spS 4) [] E0 (tCons ta (tCons tb tNil)))) σ H true := fun H1 e Q q =>
  ha H1 e _ fun v H2 e2 a => hb H2 (e.trans e2) _ fun u H3 e3 b => ⟨v, u, d, rfl, Rp.ex e3 a, b, fun H4 e4 => ⟨true, rfl, q H4 ((e2.trans e3).trans e4)⟩⟩
theorem ev_same {σ : L2.St} {H : Hp} {ta tb : TE} {d : PyData} (ha : EvP ta σ H (Da 3 d)) (hb : EvP tb σ H (Da 3 d)) : Ev (tCall (spS 4) [] E0 (tCons ta (tCons tb tNil))) σ H (.bl true) := fun H1 e Q q =>
  ha H1 e _ fun v H2 e2 a => hb H2 (e.trans e2) _ fun u H3 e3 b => ⟨v, u, d, rfl, Rp.ex e3 a, b, fun H4 e4 => q H4 ((e2.trans e3).trans e4)⟩
theorem evp_due {σ : L2.St} {H : Hp} {i : Nat} {v : V} {d : PyData} (hs : σ[i]? = some (some v)) (r : Rp M0 H 2 v d) (s : Small d) : EvP (tCall spDue [] E0 (tCons (tVar i) tNil)) σ H (Da 2 (dueD d)) := fun H1 e Q q =>
  ⟨_, hs, v, d, rfl, r.ex e, s, fun u H2 e2 r2 => q u H2 e2 r2⟩
theorem ev_by {σ : L2.St} {H : Hp} {i : Nat} {v : V} {d : PyData} (hs : σ[i]? = some (some v)) (r : Rp M0 H 2 v d) (s : Small d) : Ev (tCall spBy [] E0 (tCons (tVar i) tNil)) σ H (.str (if (badR d).isSome then "refused" else "told")) := fun H1 e Q q =>
  ⟨_, hs, v, d, rfl, r.ex e, s, fun H2 e2 => q H2 e2⟩
theorem menu_small : ∀ x ∈ menuD, SeqAt.shaped x = true := by
  intro x hx
  simp only [menuD, List.mem_cons, List.not_mem_nil, or_false] at hx
  rcases hx with rfl | rfl | rfl | rfl | rfl | rfl | rfl | rfl | rfl | rfl | rfl | rfl | rfl | rfl | rfl | rfl | rfl <;> decide +kernel
theorem drawn_small {d : PyData} (h : Drawn d) : Small d := by
  rcases h with h | ⟨ds, rfl | rfl, _, h⟩
  · simp only [menuD, List.mem_cons, List.not_mem_nil, or_false] at h
    rcases h with rfl | rfl | rfl | rfl | rfl | rfl | rfl | rfl | rfl | rfl | rfl | rfl | rfl | rfl | rfl | rfl | rfl <;> first
      | trivial
      | (intro x hx
         have e : x = .str "near" := by simpa using hx
         rw [e]
         decide +kernel)
  · trivial
  · exact fun x hx => menu_small x (h x hx)
theorem due_first (d : PyData) : ∃ x, dueD d = .tuple [.str (if (badR d).isSome then "refused" else "told"), x] := by
  unfold dueD
  cases badR d with
  | none => exact ⟨_, rfl⟩
  | some p => exact ⟨_, rfl⟩
theorem Da.le' {M : Addr → Prop} {H : Hp} {n m : Nat} (h : n ≤ m) {v : V} {d : PyData} (r : Rp M H n v d) : Rp M H m v d := by
  induction h with
  | refl => exact r
  | step _ ih => exact ih.up
theorem str_eq {M : Addr → Prop} {H : Hp} {n : Nat} {u : V} {s : Str} (r : Rp M H n u (.str s)) : u = .str s := by
  cases n <;> cases u <;> first
    | exact congrArg V.str r
    | (exfalso; exact r)
theorem rules_ok : ∀ d ∈ rulesD, dueD d = .tuple [.str "told", .none] ∧ Small d := by
  intro d hd
  simp only [rulesD, List.mem_cons, List.not_mem_nil, or_false] at hd
  have go : ∀ o p k : Str, badR (row01 o p k) = none → SeqAt.shaped (.str o) = true → SeqAt.shaped (.str p) = true → SeqAt.shaped (.str k) = true → dueD (row01 o p k) = .tuple [.str "told", .none] ∧ Small (row01 o p k) := fun o p k h h1 h2 h3 => by
    refine ⟨by unfold dueD; rw [h], fun x hx => ?_⟩
    simp only [List.mem_cons, List.not_mem_nil, or_false] at hx
    rcases hx with rfl | rfl | rfl <;> assumption
  rcases hd with rfl | rfl | rfl | rfl | rfl | rfl | rfl | rfl | rfl | rfl | rfl | rfl <;> exact go _ _ _ (by decide +kernel) (by decide +kernel) (by decide +kernel) (by decide +kernel)
theorem evp_all {σ : L2.St} {H : Hp} : EvP (tCall spAll [] E0 tNil) σ H (Da 3 (.list rulesD)) := fun H1 e Q q =>
  ⟨rfl, fun p xs H2 hp e2 l a => q _ H2 e2 (Rp.up (n := 2) ⟨xs, l, by rw [pair_len a]; decide, a, fun z => z⟩)⟩
theorem ev_allB {K : PySem.W.Frag} {σ : L2.St} {H : Hp} {te : TE} {vs : List V} {bs : List Bool} (h : EvL te σ H vs) (e : vs = bs.map V.bl) : Ev (tCB (rAll K) (tCons te tNil)) σ H (.bl (bs.all id)) := fun H1 e1 Q q =>
  h H1 e1 _ fun p H2 hp e2 l => ⟨p, bs, rfl, sq_of (by rw [← e]; exact l), q H2 e2⟩
theorem given_true (n : Nat) : given n (fun _ => true) (fun _ => V.bl true) = (List.replicate n true).map V.bl := by
  unfold given
  rw [List.filter_eq_self.mpr (fun _ _ => rfl)]
  apply List.ext_getElem?
  intro i
  by_cases h : i < n
  · simp [h]
  · simp [h, Nat.le_of_not_lt h]
theorem take_rows : ∀ {i j : Nat} {x y : V}, [V.str "near", .str "far"][i]? = some x → [V.str "reload", .str "stay", .str "again"][j]? = some y →
    ∃ o p : Str, x = .str o ∧ y = .str p ∧ rulesD.take (6 * i + 2 * (j + 1)) = (rulesD.take (6 * i + 2 * j) ++ [row01 o p "kept"]) ++ [row01 o p "lost"]
  | 0, 0, _, _, hi, hj => by
    cases hi
    cases hj
    exact ⟨_, _, rfl, rfl, rfl⟩
  | 0, 1, _, _, hi, hj => by
    cases hi
    cases hj
    exact ⟨_, _, rfl, rfl, rfl⟩
  | 0, 2, _, _, hi, hj => by
    cases hi
    cases hj
    exact ⟨_, _, rfl, rfl, rfl⟩
  | 1, 0, _, _, hi, hj => by
    cases hi
    cases hj
    exact ⟨_, _, rfl, rfl, rfl⟩
  | 1, 1, _, _, hi, hj => by
    cases hi
    cases hj
    exact ⟨_, _, rfl, rfl, rfl⟩
  | 1, 2, _, _, hi, hj => by
    cases hi
    cases hj
    exact ⟨_, _, rfl, rfl, rfl⟩
  | i + 2, _, _, _, hi, _ => by simp at hi
  | _, j + 3, _, _, _, hj => by simp at hj
/-- rows.append((o, p, k)) -/
theorem push_row {K : PySem.W.Frag} {σ : L2.St} {H : Hp} {D : Ends} {R : Addr} {xs : List V} {ds : List PyData} {v : V} {d : PyData} {o p k : Str} (h4 : σ[4]? = some (some (.ref R))) (h5 : σ[5]? = some (some (.str o))) (h6 : σ[6]? = some (some (.str p))) (hR : H R = some (.lst xs)) (hl : xs.length ≤ 100)
    (pr : Paired (Rp (fun a => a = R) H 1) xs ds) (rv : Rp (fun a => a = R) H 2 v d) (q : ∀ (xs' : List V) (H' : Hp), H' R = some (.lst xs') → Paired (Rp (fun a => a = R) H' 1) xs' (ds ++ [row01 o p k]) → Rp (fun a => a = R) H' 2 v d → SmB R H H' → D.nx σ H') :
    tDrop (tBM K "list" rAppend (tVar 4) (tCons (tTup (tCons (tVar 5) (tCons (tVar 6) (tCons (tC (.str k)) tNil)))) tNil)) D σ H := by
  refine ⟨_, h4, .inl ⟨rfl, _, sq_of hR⟩, _, h5, _, h6, (by show 3 ≤ sizeLine; decide), fun t ht => ?_⟩
  have hRt : R ≠ t := ne_of_none hR ht
  refine ⟨R, xs, .ref t, rfl, rfl, by rw [upd_ne hRt]; exact hR, small1000 (by omega), ?_⟩
  have eu : ExM (fun a => a = R) (upd H t (.tup [.str o, .str p, .str k])) (upd (upd H t (.tup [.str o, .str p, .str k])) R (.lst (xs ++ [.ref t]))) := ExM.upd rfl
  refine q (xs ++ [.ref t]) _ upd_same (pairs_app (Paired.mapP pr fun _ _ z => (z.ex (Ex.new ht)).exM (fun _ z => z) eu) (.cons ?_ .nil)) ((rv.ex (Ex.new ht)).exM (fun _ z => z) eu) ((SmB.of (Ex.new ht)).trans SmB.upd)
  refine ⟨[.str o, .str p, .str k], by rw [upd_ne hRt.symm, upd_same], by show 3 ≤ 1000; decide, .cons Rp.str (.cons Rp.str (.cons Rp.str .nil)), fun z => hRt z.symm⟩
theorem ok_law (T : Txt K mg) 
    (D__law_pool : Df P w K mg base 1 "_law_pool" ["_law_script"] (spPool K)) (D__law_value : Df P w K mg base 3 "_law_value" ["_law_pool_here"] spValue) (D__law_due : Df P w K mg base 1 "_law_due" ["_law_value_here"] spDue) (D__law_asked : Df P w K mg base 4 "_law_asked" ["_law_value_here"] spDue)
    (D__law_by_base : Df P w K mg base 4 "_law_by_base" ["_law_value_here"] spBy) (D__law_same : Df P w K mg base 4 "_law_same" ["_law_a", "_law_b"] (spS 4)) (D_all_rules : Df P w K mg base 1 "all_rules" [] spAll)
    {f : Addr} {fd : FuncData} (F : Fun K "law" "law" s_law f fd) : FnOk P w K mg base CX0 5 f fd ["_law_script"] (spLaw K) := by
  refine F.ok sc_law (fun vs H Q E h => ?_) (fun cdv A outer s H vs Q E hr h => ?_)
  · obtain ⟨a, ns, rfl, _⟩ := h
    rfl
  obtain ⟨a, ns, rfl, hS, h63, k⟩ := h
  refine ⟨_, (pss_cons (ps_set (i := 1) sc_law.nd rfl (Or.inl rfl) (pe_call D__law_pool.G (hr.mono (by omega)) rfl D__law_pool.m D__law_pool.kp D__law_pool.b .nil pass0 (pa_cons (pv 0) pa_nil)))
  (pss_cons (ps_set (i := 2) sc_law.nd rfl (Or.inl rfl) (pe_call D__law_value.G (hr.mono (by omega)) rfl D__law_value.m D__law_value.kp D__law_value.b .nil pass0 (pa_cons (pv 1) pa_nil)))
  (pss_cons (ps_set (i := 3) sc_law.nd rfl (Or.inl rfl) (pe_call D__law_due.G (hr.mono (by omega)) rfl D__law_due.m D__law_due.kp D__law_due.b .nil pass0 (pa_cons (pv 2) pa_nil)))
  (pss_cons (ps_if (PW.pt (pw_or (pt_not (pt_val (pe_call D__law_same.G (hr.mono (by omega)) rfl D__law_same.m D__law_same.kp D__law_same.b .nil pass0 (pa_cons (pe_call D__law_asked.G (hr.mono (by omega)) rfl D__law_asked.m D__law_asked.kp D__law_asked.b .nil pass0 (pa_cons (pv 2) pa_nil)) (pa_cons (pv 3) pa_nil))))) (pw_or1 (pt_cmpR op_ne (pe_call D__law_by_base.G (hr.mono (by omega)) rfl D__law_by_base.m D__law_by_base.kp D__law_by_base.b .nil pass0 (pa_cons (pv 2) pa_nil)) (pe_ix ix_tup (pv 3) pe_int (fun _ _ => rfl)) (nomark _))))) (pss_one (ps_ret pe_bl)) pss_nil)
  (pss_cons (ps_set (i := 4) sc_law.nd rfl (Or.inl rfl) (pe_lst pa_nil))
  (pss_cut (ps_for PassesOwn.never rfl (pi_list (pe_lst (pa_cons pe_str (pa_cons pe_str pa_nil)))) (pg_name (i := 5) sc_law.nd rfl (Or.inl rfl))
  (pss_one (ps_for PassesOwn.never rfl (pi_list (pe_lst (pa_cons pe_str (pa_cons pe_str (pa_cons pe_str pa_nil))))) (pg_name (i := 6) sc_law.nd rfl (Or.inl rfl))
  (pss_cons (ps_expr (pe_bm PySem.F.plainAttrs_list PySem.F.slot_list_append PySem.F.type_list_append mt_append (pv 4) (pa_cons (pe_tup (pa_cons (pv 5) (pa_cons (pv 6) (pa_cons pe_str pa_nil)))) pa_nil)))
  (pss_one (ps_expr (pe_bm PySem.F.plainAttrs_list PySem.F.slot_list_append PySem.F.type_list_append mt_append (pv 4) (pa_cons (pe_tup (pa_cons (pv 5) (pa_cons (pv 6) (pa_cons pe_str pa_nil)))) pa_nil))))))))
  (pss_cons (ps_set (i := 7) sc_law.nd rfl (Or.inl rfl) (pe_call0 D_all_rules.G (hr.mono (by omega)) rfl D_all_rules.m D_all_rules.kp D_all_rules.b .nil pass0))
  (pss_cons (ps_if (pt_not (pt_val (pe_call D__law_same.G (hr.mono (by omega)) rfl D__law_same.m D__law_same.kp D__law_same.b .nil pass0 (pa_cons (pv 7) (pa_cons (pv 4) pa_nil))))) (pss_one (ps_ret pe_bl)) pss_nil)
  (pss_cons (ps_expr (pe_bm PySem.F.plainAttrs_list PySem.F.slot_list_append PySem.F.type_list_append mt_append (pv 7) (pa_cons (pe_tup (pa_cons pe_str (pa_cons pe_str (pa_cons pe_str pa_nil)))) pa_nil)))
  (pss_cons (ps_asg (pv 2) (pg_sub (pv 7) pe_int set_list))
  (pss_cons (ps_if (pt_not (pt_val (pe_call D__law_same.G (hr.mono (by omega)) rfl D__law_same.m D__law_same.kp D__law_same.b .nil pass0 (pa_cons (pe_call0 D_all_rules.G (hr.mono (by omega)) rfl D_all_rules.m D_all_rules.kp D_all_rules.b .nil pass0) (pa_cons (pv 4) pa_nil))))) (pss_one (ps_ret pe_bl)) pss_nil)
  (pss_one (ps_ret (pe_callB (cr_all rfl) (by rfl) T.b_all (by decide +kernel) (pa_cons (pe_lc (own := [("_law_row", 8)]) (g := (gName 8)) (tt := tYes) rfl sc_law.nd (pi_list (pv 4)) (blkOk_by (own := [("_law_row", 8)]) (N := N_law) (sc := defScope s_law) (by decide +kernel)) (fun _ _ _ _ _ => (pg_name (i := 8) sc_law.nd rfl (Or.inl rfl))) (fun _ _ _ _ _ => pts_nil) (fun _ _ _ _ _ => (pe_call D__law_same.G (hr.mono (by omega)) rfl D__law_same.m D__law_same.kp D__law_same.b .nil pass0 (pa_cons (pe_call D__law_asked.G (hr.mono (by omega)) rfl D__law_asked.m D__law_asked.kp D__law_asked.b .nil pass0 (pa_cons (pv 8) pa_nil)) (pa_cons (pe_tup (pa_cons pe_str (pa_cons pe_non pa_nil))) pa_nil))))) pa_nil))))))))))))))), ?_⟩
  refine ⟨_, rfl, a, ns, rfl, hS, h63, fun p H1 e1 n1 P1' => ?_⟩
  have P1 : PoolAt M0 H1 p := P1'.weak fun _ z => z.elim
  refine ⟨_, rfl, p, rfl, P1, fun v d H2 hd rv => ?_⟩
  have sd := drawn_small hd
  refine q_asgP (evp_due rfl rv sd) fun due H3 e3 rdue => ?_
  have rdue : Rp M0 H3 2 due (dueD d) := rdue
  obtain ⟨dx, hdx⟩ := due_first d
  have rv3 := rv.ex e3
  obtain ⟨u, ru, g⟩ := ev_ixT (K := K) (i := 0) (te := tVar 3) (ti := tC (.int 0)) (σ := ((List.set (L2.start N_law [V.ref a]) 1 (some (V.ref p))).set 2 (some v)).set 3 (some due)) (H := H3) (n := 1) (M := M0) (v := due) (ev_var rfl) (by rw [← hdx]; exact rdue) ev_c rfl
  obtain rfl := str_eq ru
  refine q_when (b := false) (et_is (b := false) (a := !true || !decide ((V.str (if (badR d).isSome then "refused" else "told")) = V.str (if (badR d).isSome then "refused" else "told"))) (et_or (et_not (et_same (d := dueD d) (EvP.imp (evp_due (i := 2) rfl rv3 sd) fun _ _ z => Rp.up z) (evp_var rfl (Rp.up rdue) (Da.mono _ _)))) fun _ => et_test (ev_op (ev_by rfl rv3 sd) g (rv_ne rfl))) (by simp)) (fun z => Bool.noConfusion z) (fun _ H4 e4 => ?_)
  refine ⟨(by show 0 ≤ sizeLine; decide), fun R hR => ?_⟩
  have rv5 : Rp (fun a => a = R) (upd H4 R (.lst [])) 2 v d := ((rv3.ex e4).addM (N := fun a => a = R) fun a z => .inr (by rw [z]; exact hR)).ex (Ex.new hR)
  have hR5 : (upd H4 R (.lst [])) R = some (.lst []) := upd_same
  generalize upd H4 R (.lst []) = H5 at rv5 hR5
  refine q_cut (M := fun σ' H' => ∃ x5 x6 xs, σ' = [some (.ref a), some (.ref p), some v, some due, some (.ref R), x5, x6, none, none] ∧ H' R = some (.lst xs) ∧ Paired (Rp (fun a => a = R) H' 1) xs rulesD ∧ Rp (fun a => a = R) H' 2 v d) ?_ ?_
  · refine ⟨(by show 2 ≤ sizeLine; decide), fun l0 hl0 => ?_⟩
    have hRl : R ≠ l0 := ne_of_none hR5 hl0
    refine ⟨l0, rfl, ⟨_, sq_of upd_same⟩, for_list (K := K) (a := l0) (xs := [.str "near", .str "far"]) (fun i σ' H' => ∃ x5 x6 xs, σ' = [some (.ref a), some (.ref p), some v, some due, some (.ref R), x5, x6, none, none] ∧ H' R = some (.lst xs) ∧ Paired (Rp (fun a => a = R) H' 1) xs (rulesD.take (6 * i)) ∧ Rp (fun a => a = R) H' 2 v d ∧ H' l0 = some (.lst [.str "near", .str "far"]))
      ⟨_, _, [], rfl, by rw [upd_ne hRl]; exact hR5, .nil, rv5.ex (Ex.new hl0), upd_same⟩ (fun i σ' H' _ ⟨_, _, _, _, _, _, _, z⟩ => sq_of z) ?_ ?_⟩
    · rintro i x σ' H6 hi ⟨x5, x6, xs, rfl, hR6, pr, rv6, hl6⟩
      refine ⟨(by show 3 ≤ sizeLine; decide), fun l1 hl1 => ?_⟩
      have hRl1 : R ≠ l1 := ne_of_none hR6 hl1
      have hll : l0 ≠ l1 := ne_of_none hl6 hl1
      refine ⟨l1, rfl, ⟨_, sq_of upd_same⟩, for_list (K := K) (a := l1) (xs := [.str "reload", .str "stay", .str "again"]) (fun j σ' H' => ∃ x6 xs, σ' = [some (.ref a), some (.ref p), some v, some due, some (.ref R), some x, x6, none, none] ∧ H' R = some (.lst xs) ∧ Paired (Rp (fun a => a = R) H' 1) xs (rulesD.take (6 * i + 2 * j)) ∧ Rp (fun a => a = R) H' 2 v d ∧ H' l0 = some (.lst [.str "near", .str "far"]) ∧ H' l1 = some (.lst [.str "reload", .str "stay", .str "again"]))
        ⟨_, xs, rfl, by rw [upd_ne hRl1]; exact hR6, Paired.mapP pr fun _ _ z => z.ex (Ex.new hl1), rv6.ex (Ex.new hl1), by rw [upd_ne hll]; exact hl6, upd_same⟩ (fun j σ' H' _ ⟨_, _, _, _, _, _, _, z⟩ => sq_of z) ?_ ?_⟩
      · rintro j y σ' H7 hj ⟨x6, ys, rfl, hR7, pr7, rv7, hl07, hl17⟩
        obtain ⟨o, q, rfl, rfl, ht⟩ := take_rows hi hj
        have hlen : ys.length ≤ 12 := by
          rw [pair_len pr7, List.length_take]
          exact Nat.min_le_right _ _
        refine push_row (K := K) (o := o) (p := q) rfl rfl rfl hR7 (by omega) pr7 rv7 fun zs H8 hR8 pr8 rv8 s8 => ?_
        have hlen8 : zs.length ≤ 100 := by
          have z := pair_len pr8
          rw [List.length_append, List.length_take] at z
          have := Nat.min_le_right (6 * i + 2 * j) rulesD.length
          have e12 : rulesD.length = 12 := rfl
          simp only [List.length_singleton] at z
          omega
        refine push_row (K := K) (o := o) (p := q) rfl rfl rfl hR8 hlen8 pr8 rv8 fun ws H9 hR9 pr9 rv9 s9 => ?_
        exact ⟨_, ws, rfl, hR9, by rw [ht]; exact pr9, rv9, s9 _ _ hRl.symm (s8 _ _ hRl.symm hl07), s9 _ _ hRl1.symm (s8 _ _ hRl1.symm hl17)⟩
      · rintro σ' H7 ⟨x6, ys, rfl, hR7, pr7, rv7, hl07, _⟩
        exact ⟨_, _, ys, rfl, hR7, pr7, rv7, hl07⟩
    · rintro σ' H6 ⟨x5, x6, xs, rfl, hR6, pr, rv6, _⟩
      exact ⟨_, _, xs, rfl, hR6, pr, rv6⟩
  · rintro σ' H6 ⟨x5, x6, xs, rfl, hR6, pr, rv6⟩
    refine ⟨rfl, fun L ws H7 hL e7 hL7 pa => ?_⟩
    have hRL : R ≠ L := ne_of_none hR6 hL
    have rowsR : Rp (fun a => M0 a ∨ a = L) H7 2 (.ref R) (.list rulesD) := Rp.ex e7 (Rp.add hL (M := M0) (n := 2) ⟨xs, hR6, by rw [pair_len pr]; decide, Paired.mapP pr fun _ _ z => z.w0, fun z => z⟩)
    have rv7 : Rp (fun a => M0 a ∨ a = L) H7 2 v d := Rp.ex e7 (Rp.add hL rv6.w0)
    have told : Rp M0 H7 2 (.ref L) (.list rulesD) := ⟨ws, hL7, by rw [pair_len pa]; decide, pa, fun z => z⟩
    refine q_when (b := false) (et_is (et_not (et_same (d := .list rulesD) (evp_var rfl told.up (Da.mono _ _)) (evp_var rfl rowsR.up.w0 (Da.mono _ _)))) rfl) (fun z => Bool.noConfusion z) (fun _ H8 e8 => ?_)
    have hL8 := e8 _ _ hL7
    refine ⟨_, rfl, .inl ⟨rfl, _, sq_of hL8⟩, (by show 3 ≤ sizeLine; decide), fun t ht => ?_⟩
    have hLt : L ≠ t := ne_of_none hL8 ht
    refine ⟨L, ws, .ref t, rfl, rfl, by rw [upd_ne hLt]; exact hL8, small1000 (by rw [pair_len pa]; decide), ?_⟩
    have eu : ExM (fun a => M0 a ∨ a = L) H7 (upd (upd H8 t (.tup [.str "near", .str "stay", .str "odd"])) L (.lst (ws ++ [V.ref t]))) := (ExM.of (e8.trans (Ex.new ht))).trans (ExM.upd (.inr rfl))
    have rows9 := rowsR.exM (fun _ z => z) eu
    have rv9 := rv7.exM (fun _ z => z) eu
    have hL9 : (upd (upd H8 t (.tup [.str "near", .str "stay", .str "odd"])) L (.lst (ws ++ [V.ref t]))) L = some (.lst (ws ++ [V.ref t])) := upd_same
    generalize upd (upd H8 t (.tup [.str "near", .str "stay", .str "odd"])) L (.lst (ws ++ [V.ref t])) = H9 at rows9 rv9 hL9
    refine q_setL (j := 0) hL9 (ev_var rfl) (ev_var rfl) ev_c (by rw [List.length_append, List.length_singleton]; omega) fun H10 e10 => ?_
    have rows11 : Rp M0 (upd H10 L (.lst ((ws ++ [V.ref t]).set 0 v))) 2 (.ref R) (.list rulesD) := ((rows9.ex e10).exM (fun _ z => z) (ExM.upd (.inr rfl))).w0
    generalize upd H10 L (.lst ((ws ++ [V.ref t]).set 0 v)) = H11 at rows11
    refine q_when (b := false) (et_is (et_not (et_same (d := .list rulesD) evp_all (evp_var rfl rows11.up (Da.mono _ _)))) rfl) (fun z => Bool.noConfusion z) (fun _ H12 e12 => ?_)
    obtain ⟨ys, hR12, hy, py, _⟩ := rows11.ex e12
    have hall := ev_allB (K := K) (bs := List.replicate ys.length true) (el_lcL (K := K) (σ := [some (.ref a), some (.ref p), some v, some due, some (.ref R), x5, x6, some (.ref L), none]) (H := H12) (tl := tVar 4) (te := tCall (spS 4) [] E0 (tCons (tCall spDue [] E0 (tCons (tVar 8) tNil)) (tCons (tTup (tCons (tC (.str "told")) (tCons (tC .non) tNil))) tNil))) (t := tYes) (j := 8) (vs := [8]) (xs := ys) (fun _ => true) (fun _ => .bl true)
      (ev_var rfl) (sq_of hR12) (by omega) (fun _ => rfl) (fun i x H13 _ _ => fun H14 _ Q' q' => q' H14 (Ex.refl H14)) (fun i x H13 e13 hx _ => by
        obtain ⟨d', hd', r'⟩ := pair_at py hx
        obtain ⟨z1, z2⟩ := rules_ok d' (List.mem_of_getElem? hd')
        refine ev_same (d := .tuple [.str "told", .none]) ?_ (evp_tup2 (n := 2) evp_str evp_non)
        rw [← z1]
        exact EvP.imp (evp_due (i := 8) rfl (Rp.up (r'.ex e13)) z2) fun _ _ z => Rp.up z)) (given_true _)
    rw [all_yes] at hall
    exact s_ret hall fun H13 e13 => k _
theorem tk_row {o p k : Str} : ∀ {i j n : Nat}, [V.str "near", .str "far"][i]? = some (.str o) → [V.str "reload", .str "stay", .str "again"][j]? = some (.str p) → [V.str "kept", .str "lost"][n]? = some (.str k) → rulesD.take (6 * i + 2 * j + (n + 1)) = rulesD.take (6 * i + 2 * j + n) ++ [row01 o p k]
  | 0, 0, 0, hi, hj, hk => by cases hi; cases hj; cases hk; rfl
  | 0, 0, 1, hi, hj, hk => by cases hi; cases hj; cases hk; rfl
  | 0, 1, 0, hi, hj, hk => by cases hi; cases hj; cases hk; rfl
  | 0, 1, 1, hi, hj, hk => by cases hi; cases hj; cases hk; rfl
  | 0, 2, 0, hi, hj, hk => by cases hi; cases hj; cases hk; rfl
  | 0, 2, 1, hi, hj, hk => by cases hi; cases hj; cases hk; rfl
  | 1, 0, 0, hi, hj, hk => by cases hi; cases hj; cases hk; rfl
  | 1, 0, 1, hi, hj, hk => by cases hi; cases hj; cases hk; rfl
  | 1, 1, 0, hi, hj, hk => by cases hi; cases hj; cases hk; rfl
  | 1, 1, 1, hi, hj, hk => by cases hi; cases hj; cases hk; rfl
  | 1, 2, 0, hi, hj, hk => by cases hi; cases hj; cases hk; rfl
  | 1, 2, 1, hi, hj, hk => by cases hi; cases hj; cases hk; rfl
  | i + 2, _, _, hi, _, _ => by simp at hi
  | _, j + 3, _, _, hj, _ => by simp at hj
  | _, _, n + 2, _, _, hk => by simp at hk
theorem strs_at {zs : List Str} {i : Nat} {v : V} (h : (zs.map V.str)[i]? = some v) : ∃ z, v = .str z ∧ zs[i]? = some z := by
  rw [List.getElem?_map] at h
  cases e : zs[i]? with
  | none => rw [e] at h; cases h
  | some z => rw [e] at h; cases h; exact ⟨z, rfl, rfl⟩
abbrev ordV : List V := (["near", "far"] : List Str).map V.str
abbrev pasV : List V := (["reload", "stay", "again"] : List Str).map V.str
abbrev datV : List V := (["kept", "lost"] : List Str).map V.str
abbrev s_all_rules : Stmt := top 10
abbrev N_all_rules : List Str := ["order", "past", "data"]
theorem sc_all_rules : FnScope N_all_rules [] (defScope s_all_rules) := ⟨rfl, rfl, rfl, by decide +kernel, rfl, by decide +kernel, by decide +kernel⟩
theorem ok_all_rules (T : Txt K mg) {O Ps Dt : Addr} (g_ORDERS : mg "ORDERS" = some (.ref O)) (g_PASTS : mg "PASTS" = some (.ref Ps)) (g_DATA : mg "DATA" = some (.ref Dt)) (hO : ∀ H, SqT K H O ordV) (hP : ∀ H, SqT K H Ps pasV) (hDt : ∀ H, SqT K H Dt datV)
    {f : Addr} {fd : FuncData} (F : Fun K "all_rules" "all_rules" s_all_rules f fd) : FnOk P w K mg base CX0 1 f fd [] spAll := by
  refine F.ok sc_all_rules (fun vs H Q E h => ?_) (fun cdv A outer s H vs Q E hr h => ?_)
  · obtain ⟨rfl, _⟩ := h
    rfl
  obtain ⟨rfl, k⟩ := h
  refine ⟨_, (pss_one (ps_ret (pe_lc3 (own := [("order", 0), ("past", 1), ("data", 2)]) (vs1 := [1, 2]) (vs2 := [2]) (g := gName 0) (g1 := gName 1) (g2 := gName 2) (tt := tYes) (tt1 := tYes) (tt2 := tYes) (wi1 := iTup K (tC (.ref Ps))) (wi2 := iTup K (tC (.ref Dt))) rfl sc_all_rules.nd (pi_tup (pe_glob (v := .ref O) (by rfl) g_ORDERS rfl))
    (blkOk_by (own := [("order", 0), ("past", 1), ("data", 2)]) (N := N_all_rules) (sc := defScope s_all_rules) (by decide +kernel)) (by decide) (by decide)
    (by exact fun _ _ _ _ _ => ⟨⟨pg_name (i := 0) sc_all_rules.nd rfl (Or.inl rfl), pts_nil⟩, ⟨pi_tup (pe_glob (v := .ref Ps) (by rfl) g_PASTS rfl), pg_name (i := 1) sc_all_rules.nd rfl (Or.inl rfl), pts_nil⟩, ⟨pi_tup (pe_glob (v := .ref Dt) (by rfl) g_DATA rfl), pg_name (i := 2) sc_all_rules.nd rfl (Or.inl rfl), pts_nil⟩, pe_tup (pa_cons (pv 0) (pa_cons (pv 1) (pa_cons (pv 2) pa_nil)))⟩)))), ?_⟩
  refine ⟨O, rfl, ⟨_, hO _⟩, fun D hD => ?_⟩
  let M : Addr → Prop := fun a => a = D
  let Pv : Nat → Hp → Prop := fun m H' => Ex H H' ∧ ∃ us, H' D = some (.lst us) ∧ Paired (Rp M H' 1) us (rulesD.take m)
  have hl : ∀ {us : List V} {H' : Hp} {m : Nat}, Paired (Rp M H' 1) us (rulesD.take m) → us.length ≤ 12 := fun p => by
    rw [pair_len p, List.length_take]
    exact Nat.min_le_right _ _
  refine u_it (walk_tup (K := K) (a := O) (xs := ordV)) (fun i H' => Pv (6 * i) H') ⟨Ex.new hD, [], upd_same, .nil⟩ (fun _ _ _ => hO _) ?_ ?_
  · rintro i x H1 _ hi p1 ⟨rfl, hx⟩
    obtain ⟨o, rfl, ho⟩ := strs_at hx
    refine ⟨rfl, yes_if ⟨Ps, rfl, ⟨_, hP _⟩, u_it (walk_tup (K := K) (a := Ps) (xs := pasV)) (fun j H' => Pv (6 * i + 2 * j) H') p1 (fun _ _ _ => hP _) ?_ fun H' q => by exact q⟩⟩
    rintro j y H2 _ hj p2 ⟨rfl, hy⟩
    obtain ⟨pp, rfl, hpp⟩ := strs_at hy
    refine ⟨rfl, yes_if ⟨Dt, rfl, ⟨_, hDt _⟩, u_it (walk_tup (K := K) (a := Dt) (xs := datV)) (fun n H' => Pv (6 * i + 2 * j + n) H') p2 (fun _ _ _ => hDt _) ?_ fun H' q => by exact q⟩⟩
    rintro n z _ H3 hn ⟨e3, us, hD3, pr⟩ ⟨rfl, hz⟩
    obtain ⟨kk, rfl, hkk⟩ := strs_at hz
    refine ⟨rfl, yes_if ⟨_, rfl, _, rfl, _, rfl, (by show 3 ≤ sizeLine; decide), fun t ht => ?_⟩⟩
    have h12 := hl pr
    have hDt' : D ≠ t := ne_of_none hD3 ht
    refine ⟨us, by rw [upd_ne hDt']; exact hD3, small1000 (by omega), (e3.trans (Ex.new ht)).mut hD, us ++ [.ref t], upd_same, ?_⟩
    · rw [tk_row hx hy hz]
      have eu : ExM M (upd H3 t (.tup [.str o, .str pp, .str kk])) (upd (upd H3 t (.tup [.str o, .str pp, .str kk])) D (.lst (us ++ [.ref t]))) := ExM.upd rfl
      refine pairs_app (Paired.mapP pr fun _ _ z => (z.ex (Ex.new ht)).exM (fun _ z => z) eu) (.cons ?_ .nil)
      exact ⟨[.str o, .str pp, .str kk], by rw [upd_ne hDt'.symm, upd_same], by show 3 ≤ 1000; decide, .cons Rp.str (.cons Rp.str (.cons Rp.str .nil)), fun z => hDt' z.symm⟩
  · rintro H1 ⟨e1, us, hD1, pr⟩
    exact k D us H1 hD e1 hD1 (Paired.mapP pr fun _ _ z => z.w0)
/-- the words of place i -/
def wordsAt : Nat → List Str
  | 0 => ["near", "far"]
  | 1 => ["reload", "stay", "again"]
  | _ => ["kept", "lost"]
theorem words_small : ∀ i, SeqAt.shaped (.tuple ((wordsAt i).map .str)) = true
  | 0 => by decide +kernel
  | 1 => by decide +kernel
  | n + 2 => (by decide +kernel : SeqAt.shaped (.tuple ((wordsAt 2).map .str)) = true)
theorem strs_dpall {K : PySem.W.Frag} {H : Hp} : ∀ zs : List Str, DpAll K H (zs.map V.str) (zs.map .str)
  | [] => .nil
  | z :: zs => .cons (.str z) (strs_dpall zs)
theorem badR3 (a b c : PyData) (i : Nat) (d : PyData) (hd : [a, b, c][i]? = some d) (hb : inW ((wordsAt i).map .str) d = false) (he : ∀ j < i, ∀ e, [a, b, c][j]? = some e → inW ((wordsAt j).map .str) e = true) : badR (.tuple [a, b, c]) = some [(i : Int)] := by
  unfold badR
  match i, hd with
  | 0, hd =>
    cases hd
    have hb : inW [.str "near", .str "far"] a = false := hb
    simp only [hb, if_true] <;> rfl
  | 1, hd =>
    cases hd
    have h0 : inW [.str "near", .str "far"] a = true := he 0 (by decide) a rfl
    have hb : inW [.str "reload", .str "stay", .str "again"] b = false := hb
    simp only [h0, hb] <;> rfl
  | 2, hd =>
    cases hd
    have h0 : inW [.str "near", .str "far"] a = true := he 0 (by decide) a rfl
    have h1 : inW [.str "reload", .str "stay", .str "again"] b = true := he 1 (by decide) b rfl
    have hb : inW [.str "kept", .str "lost"] c = false := hb
    simp only [h0, h1, hb] <;> rfl
  | n + 3, hd => simp at hd
theorem goodR3 (a b c : PyData) (he : ∀ j < 3, ∀ e, [a, b, c][j]? = some e → inW ((wordsAt j).map .str) e = true) : badR (.tuple [a, b, c]) = none := by
  unfold badR
  have h0 : inW [.str "near", .str "far"] a = true := he 0 (by decide) a rfl
  have h1 : inW [.str "reload", .str "stay", .str "again"] b = true := he 1 (by decide) b rfl
  have h2 : inW [.str "kept", .str "lost"] c = true := he 2 (by decide) c rfl
  simp only [h0, h1, h2] <;> rfl
theorem badR_not {d : PyData} (h : isT 3 3 d = false) : badR d = some [] := by
  unfold isT at h
  unfold badR
  cases d with
  | tuple ds =>
    match ds with
    | [] => rfl
    | [_] => rfl
    | [_, _] => rfl
    | [_, _, _] => simp at h
    | _ :: _ :: _ :: _ :: _ => rfl
  | _ => rfl
theorem three_of {d : PyData} (h : isT 3 3 d = true) : ∃ a b c, d = .tuple [a, b, c] := by
  unfold isT at h
  cases d with
  | tuple ds =>
    match ds with
    | [] => simp at h
    | [_] => simp at h
    | [_, _] => simp at h
    | [a, b, c] => exact ⟨a, b, c, rfl⟩
    | _ :: _ :: _ :: _ :: r => simp at h; omega
  | _ => simp at h
abbrev s_check_rule : Stmt := top 11
abbrev N_check_rule : List Str := ["value", "index", "words"]
theorem sc_check_rule : FnScope N_check_rule ["value"] (defScope s_check_rule) := ⟨rfl, rfl, rfl, by decide +kernel, rfl, by decide +kernel, by decide +kernel⟩
theorem ok_check_rule (T : Txt K mg) (b_enumerate : mg "enumerate" = none) {C S : Addr} (X_InvalidRule : XD P w K mg base 1 "InvalidRule" C S ["self", "path"] (spX C ["path"] [3])) (D_is_tuple : Df P w K mg base 1 "is_tuple" ["value", "fewest", "most"] spIsT)
    {O Ps Dt : Addr} (g_ORDERS : mg "ORDERS" = some (.ref O)) (g_PASTS : mg "PASTS" = some (.ref Ps)) (g_DATA : mg "DATA" = some (.ref Dt)) (hO : ∀ H, SqT K H O ordV) (hP : ∀ H, SqT K H Ps pasV) (hDt : ∀ H, SqT K H Dt datV)
    {f : Addr} {fd : FuncData} (F : Fun K "check_rule" "check_rule" s_check_rule f fd) : FnOk P w K mg base (L2.CX P w) 3 f fd ["value"] (spCheck C) := by
  refine F.okX sc_check_rule (fun vs H Q E h => ?_) (fun cdv A outer s H vs Q E hr h => ?_)
  · obtain ⟨v, d, rfl, _⟩ := h
    rfl
  obtain ⟨v, d, rfl, hv, hs, kn, kx⟩ := h
  refine ⟨_, (pss_cons (ps_if (pt_not (pt_val (pe_call D_is_tuple.G (hr.mono (by omega)) rfl D_is_tuple.m D_is_tuple.kp D_is_tuple.b .nil pass0 (pa_cons (pv 0) (pa_cons pe_int (pa_cons pe_int pa_nil)))))) (pss_one (ps_raise rfl (takes_of rfl rfl rfl rfl) (pmk_oex X_InvalidRule.T X_InvalidRule.iC X_InvalidRule.tI X_InvalidRule.G (hr.mono (by omega)) X_InvalidRule.b .nil pass0 (by rfl) X_InvalidRule.gC (by exact (pa_cons (pe_tup pa_nil) pa_nil))))) pss_nil)
  (pss_one (ps_for (passes_of rfl) rfl (pi_enumT (by rfl) b_enumerate (pa_cons (pe_tup (pa_cons (pe_glob (v := .ref O) (by rfl) g_ORDERS rfl) (pa_cons (pe_glob (v := .ref Ps) (by rfl) g_PASTS rfl) (pa_cons (pe_glob (v := .ref Dt) (by rfl) g_DATA rfl) pa_nil)))) pa_nil)) (pg_tup rfl (pgs_cons (pg_name (i := 1) sc_check_rule.nd rfl (Or.inl rfl)) (pgs_cons (pg_name (i := 2) sc_check_rule.nd rfl (Or.inl rfl)) pgs_nil)))
  (pss_one (ps_if (pt_cmpR (op_notInT (u65 hr)) (pe_ix ix_tup (pv 0) (pv 1) (fun _ _ => rfl)) (pv 2) (by rfl)) (pss_one (ps_raise rfl (takes_of rfl rfl rfl rfl) (pmk_oex X_InvalidRule.T X_InvalidRule.iC X_InvalidRule.tI X_InvalidRule.G (hr.mono (by omega)) X_InvalidRule.b .nil pass0 (by rfl) X_InvalidRule.gC (by exact (pa_cons (pe_tup (pa_cons (pv 1) pa_nil)) pa_nil))))) pss_nil))))), ?_⟩
  refine q_when (et_not (et_B (b := isT 3 3 d) fun H1 e Q q => ⟨_, rfl, v, 2, d, 3, 3, rfl, hv.ex e, fun H2 e2 => q H2 e2⟩)) (fun hb H1 e1 => ?_) (fun hb H1 e1 => ?_)
  · exact mk_fly (ds := [.tuple []]) (eap_cons (evp_tup0 (n := 0)) (Da.mono _ _) eap_nil) (.cons ⟨Nat.zero_le _, [], rfl, fun y hy => absurd hy List.not_mem_nil⟩ .nil) rfl (by show 1 ≤ 9; decide) fun dd H2 e2 fly => kx [] (badR_not (notT hb)) dd H2 (e1.trans e2) fly
  obtain ⟨a, b, c, rfl⟩ := three_of (notF hb)
  have hs : ∀ x ∈ [a, b, c], SeqAt.shaped x = true := hs
  refine ⟨(by show 3 ≤ sizeLine; decide), fun t ht => ⟨t, _, rfl, st_of upd_same, for_it (walk_enumT (K := K) (a := t) (xs := [.ref O, .ref Ps, .ref Dt])) (fun i σ' H' => ∃ x1 x2, σ' = [some v, x1, x2] ∧ Ex (upd H1 t (.tup [.ref O, .ref Ps, .ref Dt])) H' ∧ ∀ j < i, ∀ e, [a, b, c][j]? = some e → inW ((wordsAt j).map .str) e = true)
    ⟨_, _, rfl, Ex.refl _, fun j hj => absurd hj (Nat.not_lt_zero j)⟩ (fun i σ' H' _ ⟨_, _, _, e, _⟩ => st_of (e _ _ upd_same)) ?_ ?_⟩⟩
  · rintro i y σ' H2 H3 hil ⟨x1, x2, rfl, e12, hall⟩ ⟨T', u1, u2, rfl, hT', rfl, h1, h2⟩
    cases h1
    refine ⟨T', _, rfl, st_of upd_same, rfl, _, _, rfl, _, _, rfl, rfl, ?_⟩
    have e13 : Ex H (upd H2 T' (.tup [.int (i : Int), u2])) := e1.trans ((Ex.new ht).trans (e12.trans (Ex.new hT')))
    have e03 := e12.trans (Ex.new (o := .tup [.int (i : Int), u2]) hT')
    show tIfS _ _ tNext _ [some v, some (.int (i : Int)), some u2] _
    generalize upd H2 T' (.tup [V.int (i : Int), u2]) = H3 at e13 e03 ⊢
    have hi3 : i < [a, b, c].length := hil
    have hin : i < 3 := hil
    have hd : [a, b, c][i]? = some [a, b, c][i] := List.getElem?_eq_getElem hi3
    generalize [a, b, c][i] = d' at hd
    have sq : ∃ A, u2 = .ref A ∧ ∀ H', SqT K H' A ((wordsAt i).map .str) := by
      match i, h2 with
      | 0, h2 => cases h2; exact ⟨O, rfl, hO⟩
      | 1, h2 => cases h2; exact ⟨Ps, rfl, hP⟩
      | 2, h2 => cases h2; exact ⟨Dt, rfl, hDt⟩
      | n + 3, h2 => simp at h2
    obtain ⟨A', rfl, sq⟩ := sq
    obtain ⟨u0, r0, g0⟩ := ev_ixT (K := K) (i := i) (te := tVar 0) (ti := tVar 1) (σ := [some v, some (.int (i : Int)), some (.ref A')]) (ev_var rfl) (hv.ex e13) (ev_var rfl) hd
    refine s_when (b := !((wordsAt i).map PyData.str).any fun z => PyData.eqv z d') (et_test (ev_op (z := .bl _) g0 (ev_var (i := 2) rfl) fun H4 e4 Q q => ⟨d', _, Rp.dp (r0.ex e4), .tup (sq H4) (strs_dpall _), hs d' (List.mem_of_getElem? hd), words_small i, q H4 (Ex.refl H4)⟩)) (fun hb H4 e4 => ?_) (fun hb H4 e4 => ?_)
    · refine mk_fly (ds := [.tuple [.int (i : Int)]]) (eap_cons (evp_tup1 (n := 0) (evp_var rfl Rp.int (Da.mono _ _))) (Da.mono _ _) eap_nil) (.cons ⟨by show 1 ≤ 100; decide, [(i : Int)], rfl, fun y hy => ?_⟩ .nil) rfl (by show 1 ≤ 9; decide) fun dd H5 e5 fly => kx [(i : Int)] (badR3 a b c i d' hd (notT hb) hall) dd H5 (e13.trans (e4.trans e5)) fly
      have ey : y = (i : Int) := by simpa using hy
      rw [ey]
      exact lg1920 (Nat.lt_of_lt_of_le (by omega : ((i : Int)).natAbs < 3) (by decide))
    · exact ⟨_, _, rfl, e03.trans e4, fun j hj e he => by
        rcases Nat.lt_succ_iff_lt_or_eq.mp hj with z | z
        · exact hall j z e he
        · rw [z] at he ⊢
          rw [hd] at he
          cases he
          exact notF hb⟩
  · rintro σ' H2 ⟨x1, x2, rfl, e12, hall⟩
    exact kn (goodR3 a b c hall) H2 (e1.trans ((Ex.new ht).trans e12))
end
/-! ### what the top has written; the head -/
theorem all_mk {l : PySem.W.OpenLaw} {w : World} {K : PySem.W.Frag} {h : Heap} {mg : Str → Option Value} {fa : Addr} (X : K.In h) (G : h.Ns mainGlobals mg) (hfa : mg "law" = some (.ref fa))
    {f_is_tuple : Addr} {od_is_tuple an_is_tuple : Option Addr} {sl_is_tuple : Array (Option Value)} {oc_is_tuple kV_is_tuple dc_is_tuple pm_is_tuple cd_is_tuple ct_is_tuple : Value}
    {f_all_rules : Addr} {od_all_rules an_all_rules : Option Addr} {sl_all_rules : Array (Option Value)} {oc_all_rules kV_all_rules dc_all_rules pm_all_rules cd_all_rules ct_all_rules : Value}
    {f_check_rule : Addr} {od_check_rule an_check_rule : Option Addr} {sl_check_rule : Array (Option Value)} {oc_check_rule kV_check_rule dc_check_rule pm_check_rule cd_check_rule ct_check_rule : Value}
    {f__law_pool : Addr} {od__law_pool an__law_pool : Option Addr} {sl__law_pool : Array (Option Value)} {oc__law_pool kV__law_pool dc__law_pool pm__law_pool cd__law_pool ct__law_pool : Value}
    {f__law_draw : Addr} {od__law_draw an__law_draw : Option Addr} {sl__law_draw : Array (Option Value)} {oc__law_draw kV__law_draw dc__law_draw pm__law_draw cd__law_draw ct__law_draw : Value}
    {f__law_pick : Addr} {od__law_pick an__law_pick : Option Addr} {sl__law_pick : Array (Option Value)} {oc__law_pick kV__law_pick dc__law_pick pm__law_pick cd__law_pick ct__law_pick : Value}
    {f__law_same : Addr} {od__law_same an__law_same : Option Addr} {sl__law_same : Array (Option Value)} {oc__law_same kV__law_same dc__law_same pm__law_same cd__law_same ct__law_same : Value}
    {f__law_menu : Addr} {od__law_menu an__law_menu : Option Addr} {sl__law_menu : Array (Option Value)} {oc__law_menu kV__law_menu dc__law_menu pm__law_menu cd__law_menu ct__law_menu : Value}
    {f__law_value : Addr} {od__law_value an__law_value : Option Addr} {sl__law_value : Array (Option Value)} {oc__law_value kV__law_value dc__law_value pm__law_value cd__law_value ct__law_value : Value}
    {f__law_due : Addr} {od__law_due an__law_due : Option Addr} {sl__law_due : Array (Option Value)} {oc__law_due kV__law_due dc__law_due pm__law_due cd__law_due ct__law_due : Value}
    {f__law_asked : Addr} {od__law_asked an__law_asked : Option Addr} {sl__law_asked : Array (Option Value)} {oc__law_asked kV__law_asked dc__law_asked pm__law_asked cd__law_asked ct__law_asked : Value}
    {f__law_by_base : Addr} {od__law_by_base an__law_by_base : Option Addr} {sl__law_by_base : Array (Option Value)} {oc__law_by_base kV__law_by_base dc__law_by_base pm__law_by_base cd__law_by_base ct__law_by_base : Value}
    {f_law : Addr} {od_law an_law : Option Addr} {sl_law : Array (Option Value)} {oc_law kV_law dc_law pm_law cd_law ct_law : Value}
    {S : Addr}
    {O_ORDERS : Addr} {od_ORDERS : Option Addr} {n_ORDERS : Nat} {sl_ORDERS : Array (Option Value)} {k0_ORDERS k1_ORDERS : Tok}
    {O_PASTS : Addr} {od_PASTS : Option Addr} {n_PASTS : Nat} {sl_PASTS : Array (Option Value)} {k0_PASTS k1_PASTS k2_PASTS : Tok}
    {O_DATA : Addr} {od_DATA : Option Addr} {n_DATA : Nat} {sl_DATA : Array (Option Value)} {k0_DATA k1_DATA : Tok}
    {C_InvalidGraph : Addr} {nm_InvalidGraph q_InvalidGraph : Str} {N_InvalidGraph_ : Addr} {bs_InvalidGraph : List Value} {sn_InvalidGraph : List Str} {sub_InvalidGraph : List Value} {ab_InvalidGraph : Bool} {col_InvalidGraph : Option Bool} {dd_InvalidGraph : Option Addr} {m0_InvalidGraph m1_InvalidGraph m2_InvalidGraph m3_InvalidGraph m5_InvalidGraph : Option Value}
    {f_InvalidGraph_i : Addr} {od_InvalidGraph_i an_InvalidGraph_i : Option Addr} {sl_InvalidGraph_i : Array (Option Value)} {oc_InvalidGraph_i kV_InvalidGraph_i dc_InvalidGraph_i pm_InvalidGraph_i cd_InvalidGraph_i ct_InvalidGraph_i : Value}
    {C_InvalidRule : Addr} {nm_InvalidRule q_InvalidRule : Str} {N_InvalidRule_ : Addr} {bs_InvalidRule : List Value} {sn_InvalidRule : List Str} {sub_InvalidRule : List Value} {ab_InvalidRule : Bool} {col_InvalidRule : Option Bool} {dd_InvalidRule : Option Addr} {m0_InvalidRule m1_InvalidRule m2_InvalidRule m3_InvalidRule m5_InvalidRule : Option Value}
    {f_InvalidRule_i : Addr} {od_InvalidRule_i an_InvalidRule_i : Option Addr} {sl_InvalidRule_i : Array (Option Value)} {oc_InvalidRule_i kV_InvalidRule_i dc_InvalidRule_i pm_InvalidRule_i cd_InvalidRule_i ct_InvalidRule_i : Value}
    (a_is_tuple : PySem.W.nsIn K mainGlobals "is_tuple" = some (some (.ref f_is_tuple)))
    (l_is_tuple : K.lookup f_is_tuple = some ⟨oc_is_tuple, od_is_tuple, .func (PySem.W.fnOf "is_tuple" "is_tuple" (defArgs s_is_tuple) (defBody s_is_tuple) (defScope s_is_tuple) .none kV_is_tuple dc_is_tuple pm_is_tuple an_is_tuple cd_is_tuple ct_is_tuple), sl_is_tuple⟩)
    (c_is_tuple : PySem.W.codeIn K cd_is_tuple "is_tuple" = true)
    (k_is_tuple : PySem.W.keepIn K (.ref f_is_tuple) = true)
    (a_all_rules : PySem.W.nsIn K mainGlobals "all_rules" = some (some (.ref f_all_rules)))
    (l_all_rules : K.lookup f_all_rules = some ⟨oc_all_rules, od_all_rules, .func (PySem.W.fnOf "all_rules" "all_rules" (defArgs s_all_rules) (defBody s_all_rules) (defScope s_all_rules) .none kV_all_rules dc_all_rules pm_all_rules an_all_rules cd_all_rules ct_all_rules), sl_all_rules⟩)
    (c_all_rules : PySem.W.codeIn K cd_all_rules "all_rules" = true)
    (k_all_rules : PySem.W.keepIn K (.ref f_all_rules) = true)
    (a_check_rule : PySem.W.nsIn K mainGlobals "check_rule" = some (some (.ref f_check_rule)))
    (l_check_rule : K.lookup f_check_rule = some ⟨oc_check_rule, od_check_rule, .func (PySem.W.fnOf "check_rule" "check_rule" (defArgs s_check_rule) (defBody s_check_rule) (defScope s_check_rule) .none kV_check_rule dc_check_rule pm_check_rule an_check_rule cd_check_rule ct_check_rule), sl_check_rule⟩)
    (c_check_rule : PySem.W.codeIn K cd_check_rule "check_rule" = true)
    (k_check_rule : PySem.W.keepIn K (.ref f_check_rule) = true)
    (a__law_pool : PySem.W.nsIn K mainGlobals "_law_pool" = some (some (.ref f__law_pool)))
    (l__law_pool : K.lookup f__law_pool = some ⟨oc__law_pool, od__law_pool, .func (PySem.W.fnOf "_law_pool" "_law_pool" (defArgs s__law_pool) (defBody s__law_pool) (defScope s__law_pool) .none kV__law_pool dc__law_pool pm__law_pool an__law_pool cd__law_pool ct__law_pool), sl__law_pool⟩)
    (c__law_pool : PySem.W.codeIn K cd__law_pool "_law_pool" = true)
    (k__law_pool : PySem.W.keepIn K (.ref f__law_pool) = true)
    (a__law_draw : PySem.W.nsIn K mainGlobals "_law_draw" = some (some (.ref f__law_draw)))
    (l__law_draw : K.lookup f__law_draw = some ⟨oc__law_draw, od__law_draw, .func (PySem.W.fnOf "_law_draw" "_law_draw" (defArgs s__law_draw) (defBody s__law_draw) (defScope s__law_draw) .none kV__law_draw dc__law_draw pm__law_draw an__law_draw cd__law_draw ct__law_draw), sl__law_draw⟩)
    (c__law_draw : PySem.W.codeIn K cd__law_draw "_law_draw" = true)
    (k__law_draw : PySem.W.keepIn K (.ref f__law_draw) = true)
    (a__law_pick : PySem.W.nsIn K mainGlobals "_law_pick" = some (some (.ref f__law_pick)))
    (l__law_pick : K.lookup f__law_pick = some ⟨oc__law_pick, od__law_pick, .func (PySem.W.fnOf "_law_pick" "_law_pick" (defArgs s__law_pick) (defBody s__law_pick) (defScope s__law_pick) .none kV__law_pick dc__law_pick pm__law_pick an__law_pick cd__law_pick ct__law_pick), sl__law_pick⟩)
    (c__law_pick : PySem.W.codeIn K cd__law_pick "_law_pick" = true)
    (k__law_pick : PySem.W.keepIn K (.ref f__law_pick) = true)
    (a__law_same : PySem.W.nsIn K mainGlobals "_law_same" = some (some (.ref f__law_same)))
    (l__law_same : K.lookup f__law_same = some ⟨oc__law_same, od__law_same, .func (PySem.W.fnOf "_law_same" "_law_same" (defArgs s__law_same) (defBody s__law_same) (defScope s__law_same) .none kV__law_same dc__law_same pm__law_same an__law_same cd__law_same ct__law_same), sl__law_same⟩)
    (c__law_same : PySem.W.codeIn K cd__law_same "_law_same" = true)
    (k__law_same : PySem.W.keepIn K (.ref f__law_same) = true)
    (a__law_menu : PySem.W.nsIn K mainGlobals "_law_menu" = some (some (.ref f__law_menu)))
    (l__law_menu : K.lookup f__law_menu = some ⟨oc__law_menu, od__law_menu, .func (PySem.W.fnOf "_law_menu" "_law_menu" (defArgs s__law_menu) (defBody s__law_menu) (defScope s__law_menu) .none kV__law_menu dc__law_menu pm__law_menu an__law_menu cd__law_menu ct__law_menu), sl__law_menu⟩)
    (c__law_menu : PySem.W.codeIn K cd__law_menu "_law_menu" = true)
    (k__law_menu : PySem.W.keepIn K (.ref f__law_menu) = true)
    (a__law_value : PySem.W.nsIn K mainGlobals "_law_value" = some (some (.ref f__law_value)))
    (l__law_value : K.lookup f__law_value = some ⟨oc__law_value, od__law_value, .func (PySem.W.fnOf "_law_value" "_law_value" (defArgs s__law_value) (defBody s__law_value) (defScope s__law_value) .none kV__law_value dc__law_value pm__law_value an__law_value cd__law_value ct__law_value), sl__law_value⟩)
    (c__law_value : PySem.W.codeIn K cd__law_value "_law_value" = true)
    (k__law_value : PySem.W.keepIn K (.ref f__law_value) = true)
    (a__law_due : PySem.W.nsIn K mainGlobals "_law_due" = some (some (.ref f__law_due)))
    (l__law_due : K.lookup f__law_due = some ⟨oc__law_due, od__law_due, .func (PySem.W.fnOf "_law_due" "_law_due" (defArgs s__law_due) (defBody s__law_due) (defScope s__law_due) .none kV__law_due dc__law_due pm__law_due an__law_due cd__law_due ct__law_due), sl__law_due⟩)
    (c__law_due : PySem.W.codeIn K cd__law_due "_law_due" = true)
    (k__law_due : PySem.W.keepIn K (.ref f__law_due) = true)
    (a__law_asked : PySem.W.nsIn K mainGlobals "_law_asked" = some (some (.ref f__law_asked)))
    (l__law_asked : K.lookup f__law_asked = some ⟨oc__law_asked, od__law_asked, .func (PySem.W.fnOf "_law_asked" "_law_asked" (defArgs s__law_asked) (defBody s__law_asked) (defScope s__law_asked) .none kV__law_asked dc__law_asked pm__law_asked an__law_asked cd__law_asked ct__law_asked), sl__law_asked⟩)
    (c__law_asked : PySem.W.codeIn K cd__law_asked "_law_asked" = true)
    (k__law_asked : PySem.W.keepIn K (.ref f__law_asked) = true)
    (a__law_by_base : PySem.W.nsIn K mainGlobals "_law_by_base" = some (some (.ref f__law_by_base)))
    (l__law_by_base : K.lookup f__law_by_base = some ⟨oc__law_by_base, od__law_by_base, .func (PySem.W.fnOf "_law_by_base" "_law_by_base" (defArgs s__law_by_base) (defBody s__law_by_base) (defScope s__law_by_base) .none kV__law_by_base dc__law_by_base pm__law_by_base an__law_by_base cd__law_by_base ct__law_by_base), sl__law_by_base⟩)
    (c__law_by_base : PySem.W.codeIn K cd__law_by_base "_law_by_base" = true)
    (k__law_by_base : PySem.W.keepIn K (.ref f__law_by_base) = true)
    (a_law : PySem.W.nsIn K mainGlobals "law" = some (some (.ref f_law)))
    (l_law : K.lookup f_law = some ⟨oc_law, od_law, .func (PySem.W.fnOf "law" "law" (defArgs s_law) (defBody s_law) (defScope s_law) .none kV_law dc_law pm_law an_law cd_law ct_law), sl_law⟩)
    (c_law : PySem.W.codeIn K cd_law "law" = true)
    (k_law : PySem.W.keepIn K (.ref f_law) = true)
    (a_S : PySem.W.nsIn K mainGlobals "SwapError" = some (some (.ref S)))
    (rd_S : PySem.W.readsIn K S (.type "type") = true)
    (ga_S : PySem.W.specialIn K (.ref S) "__getattribute__" = some (some (.builtin "type.__getattribute__")))
    (vv_S : PySem.W.findCls K (.ref S) (.type "type") "__init__" = some (.val (.builtin "ValueError.__init__")))
    (ic_S : PySem.W.isClsIn K S = true)
    (ty_S : PySem.W.typeIn K (.ref S) = some (.type "type"))
    (ob_n : PySem.W.specialIn K (.builtin "object.__class__") "__get__" = some (some (.builtin "getset_descriptor.__get__")))
    (ob_t : PySem.W.takesIn K (.builtin "object.__class__") = some true)
    (a_InvalidGraph : PySem.W.nsIn K mainGlobals "InvalidGraph" = some (some (.ref C_InvalidGraph)))
    (x_InvalidGraph : K.lookup C_InvalidGraph = some (excClassObj nm_InvalidGraph q_InvalidGraph C_InvalidGraph N_InvalidGraph_ bs_InvalidGraph [.ref S, .type "ValueError", .type "Exception", .type "BaseException", .type "object"] true sn_InvalidGraph sub_InvalidGraph ab_InvalidGraph col_InvalidGraph dd_InvalidGraph m0_InvalidGraph m1_InvalidGraph m2_InvalidGraph m3_InvalidGraph m5_InvalidGraph "ValueError.__new__"))
    (sa_InvalidGraph : PySem.W.findIn K (.ref C_InvalidGraph) "__setattr__" = some (some (.builtin "object.__setattr__")))
    (ga_InvalidGraph : PySem.W.findIn K (.ref C_InvalidGraph) "__getattribute__" = some (some (.builtin "BaseException.__getattribute__")))
    (gg_InvalidGraph : PySem.W.findIn K (.ref C_InvalidGraph) "__getattr__" = some (none))
    (ca_InvalidGraph : PySem.W.findIn K (.ref C_InvalidGraph) "__class__" = some (some (.builtin "object.__class__")))
    (kc_InvalidGraph : PySem.W.keepIn K (.ref C_InvalidGraph) = true)
    (n_InvalidGraph_part : PySem.W.findIn K (.ref C_InvalidGraph) "part" = some none)
    (n_InvalidGraph_path : PySem.W.findIn K (.ref C_InvalidGraph) "path" = some none)
    (ic_InvalidGraph : PySem.W.findIn K (.ref C_InvalidGraph) "__init__" = some (some (.ref f_InvalidGraph_i)))
    (l_InvalidGraph_i : K.lookup f_InvalidGraph_i = some ⟨oc_InvalidGraph_i, od_InvalidGraph_i, .func (PySem.W.fnOf "__init__" "InvalidGraph.__init__" (defArgs s_InvalidGraph___init__) (defBody s_InvalidGraph___init__) (defScope s_InvalidGraph___init__) .none kV_InvalidGraph_i dc_InvalidGraph_i pm_InvalidGraph_i an_InvalidGraph_i cd_InvalidGraph_i ct_InvalidGraph_i), sl_InvalidGraph_i⟩)
    (c_InvalidGraph_i : PySem.W.codeIn K cd_InvalidGraph_i "InvalidGraph.__init__" = true)
    (k_InvalidGraph_i : PySem.W.keepIn K (.ref f_InvalidGraph_i) = true)
    (t_InvalidGraph_i : PySem.W.typeIn K (.ref f_InvalidGraph_i) = some (.type "function"))
    (a_InvalidRule : PySem.W.nsIn K mainGlobals "InvalidRule" = some (some (.ref C_InvalidRule)))
    (x_InvalidRule : K.lookup C_InvalidRule = some (excClassObj nm_InvalidRule q_InvalidRule C_InvalidRule N_InvalidRule_ bs_InvalidRule [.ref S, .type "ValueError", .type "Exception", .type "BaseException", .type "object"] true sn_InvalidRule sub_InvalidRule ab_InvalidRule col_InvalidRule dd_InvalidRule m0_InvalidRule m1_InvalidRule m2_InvalidRule m3_InvalidRule m5_InvalidRule "ValueError.__new__"))
    (sa_InvalidRule : PySem.W.findIn K (.ref C_InvalidRule) "__setattr__" = some (some (.builtin "object.__setattr__")))
    (ga_InvalidRule : PySem.W.findIn K (.ref C_InvalidRule) "__getattribute__" = some (some (.builtin "BaseException.__getattribute__")))
    (gg_InvalidRule : PySem.W.findIn K (.ref C_InvalidRule) "__getattr__" = some (none))
    (ca_InvalidRule : PySem.W.findIn K (.ref C_InvalidRule) "__class__" = some (some (.builtin "object.__class__")))
    (kc_InvalidRule : PySem.W.keepIn K (.ref C_InvalidRule) = true)
    (n_InvalidRule_path : PySem.W.findIn K (.ref C_InvalidRule) "path" = some none)
    (ic_InvalidRule : PySem.W.findIn K (.ref C_InvalidRule) "__init__" = some (some (.ref f_InvalidRule_i)))
    (l_InvalidRule_i : K.lookup f_InvalidRule_i = some ⟨oc_InvalidRule_i, od_InvalidRule_i, .func (PySem.W.fnOf "__init__" "InvalidRule.__init__" (defArgs s_InvalidRule___init__) (defBody s_InvalidRule___init__) (defScope s_InvalidRule___init__) .none kV_InvalidRule_i dc_InvalidRule_i pm_InvalidRule_i an_InvalidRule_i cd_InvalidRule_i ct_InvalidRule_i), sl_InvalidRule_i⟩)
    (c_InvalidRule_i : PySem.W.codeIn K cd_InvalidRule_i "InvalidRule.__init__" = true)
    (k_InvalidRule_i : PySem.W.keepIn K (.ref f_InvalidRule_i) = true)
    (t_InvalidRule_i : PySem.W.typeIn K (.ref f_InvalidRule_i) = some (.type "function"))
    (z_len : PySem.W.nsIn K mainGlobals "len" = some none)
    (z_abs : PySem.W.nsIn K mainGlobals "abs" = some none)
    (z_int : PySem.W.nsIn K mainGlobals "int" = some none)
    (z_isinstance : PySem.W.nsIn K mainGlobals "isinstance" = some none)
    (z_tuple : PySem.W.nsIn K mainGlobals "tuple" = some none)
    (z_list : PySem.W.nsIn K mainGlobals "list" = some none)
    (z_dict : PySem.W.nsIn K mainGlobals "dict" = some none)
    (z_str : PySem.W.nsIn K mainGlobals "str" = some none)
    (z_bool : PySem.W.nsIn K mainGlobals "bool" = some none)
    (z_all : PySem.W.nsIn K mainGlobals "all" = some none)
    (z_range : PySem.W.nsIn K mainGlobals "range" = some none)
    (z_zip : PySem.W.nsIn K mainGlobals "zip" = some none)
    (z_ValueError : PySem.W.nsIn K mainGlobals "ValueError" = some none)
    (hCG : C_InvalidRule ≠ C_InvalidGraph)
    (hGS : C_InvalidGraph ≠ S)
    (hSB : PySem.W.subIn K (.ref S) (.type "BaseException") = some true)
    (z_enumerate : PySem.W.nsIn K mainGlobals "enumerate" = some none)
    (a_ORDERS : PySem.W.nsIn K mainGlobals "ORDERS" = some (some (.ref O_ORDERS)))
    (t_ORDERS : K.lookup O_ORDERS = some ⟨.type "tuple", od_ORDERS, .seq #[.str "near" k0_ORDERS, .str "far" k1_ORDERS] n_ORDERS, sl_ORDERS⟩)
    (a_PASTS : PySem.W.nsIn K mainGlobals "PASTS" = some (some (.ref O_PASTS)))
    (t_PASTS : K.lookup O_PASTS = some ⟨.type "tuple", od_PASTS, .seq #[.str "reload" k0_PASTS, .str "stay" k1_PASTS, .str "again" k2_PASTS] n_PASTS, sl_PASTS⟩)
    (a_DATA : PySem.W.nsIn K mainGlobals "DATA" = some (some (.ref O_DATA)))
    (t_DATA : K.lookup O_DATA = some ⟨.type "tuple", od_DATA, .seq #[.str "kept" k0_DATA, .str "lost" k1_DATA] n_DATA, sl_DATA⟩) :
    ∃ fd : FuncData, (∀ (s : Shared) (v : Value), BindsTo s fd ⟨[v], []⟩ [("_law_script", v)]) ∧ ∀ base : Heap, K.In base → base.Ns mainGlobals mg → FnOk l.prog w K mg base CX0 5 fa fd ["_law_script"] (spLaw K) := by
  have e := hfa.symm.trans (PySem.W.mg_of X G a_law)
  cases e
  have T : Txt K mg := ⟨PySem.W.mg_none_of X G z_len, PySem.W.mg_none_of X G z_abs, PySem.W.mg_none_of X G z_int, PySem.W.mg_none_of X G z_isinstance, PySem.W.mg_none_of X G z_tuple, PySem.W.mg_none_of X G z_list, PySem.W.mg_none_of X G z_dict, PySem.W.mg_none_of X G z_str, PySem.W.mg_none_of X G z_bool, PySem.W.mg_none_of X G z_all, PySem.W.mg_none_of X G z_range, PySem.W.mg_none_of X G z_zip, PySem.W.mg_none_of X G z_ValueError⟩
  have F_is_tuple := fun_mk (st := s_is_tuple) l_is_tuple c_is_tuple k_is_tuple
  have b_is_tuple := F_is_tuple.binds (ps := ["value", "fewest", "most"]) fun _ _ _ _ _ _ us hl => match us, hl with | [_, _, _], _ => rfl
  have m_is_tuple := PySem.W.mg_of X G a_is_tuple
  have F_all_rules := fun_mk (st := s_all_rules) l_all_rules c_all_rules k_all_rules
  have b_all_rules := F_all_rules.binds (ps := []) fun _ _ _ _ _ _ us hl => match us, hl with | [], _ => rfl
  have m_all_rules := PySem.W.mg_of X G a_all_rules
  have F_check_rule := fun_mk (st := s_check_rule) l_check_rule c_check_rule k_check_rule
  have b_check_rule := F_check_rule.binds (ps := ["value"]) fun _ _ _ _ _ _ us hl => match us, hl with | [_], _ => rfl
  have m_check_rule := PySem.W.mg_of X G a_check_rule
  have F__law_pool := fun_mk (st := s__law_pool) l__law_pool c__law_pool k__law_pool
  have b__law_pool := F__law_pool.binds (ps := ["_law_script"]) fun _ _ _ _ _ _ us hl => match us, hl with | [_], _ => rfl
  have m__law_pool := PySem.W.mg_of X G a__law_pool
  have F__law_draw := fun_mk (st := s__law_draw) l__law_draw c__law_draw k__law_draw
  have b__law_draw := F__law_draw.binds (ps := ["_law_pool_here", "_law_many"]) fun _ _ _ _ _ _ us hl => match us, hl with | [_, _], _ => rfl
  have m__law_draw := PySem.W.mg_of X G a__law_draw
  have F__law_pick := fun_mk (st := s__law_pick) l__law_pick c__law_pick k__law_pick
  have b__law_pick := F__law_pick.binds (ps := ["_law_pool_here", "_law_items"]) fun _ _ _ _ _ _ us hl => match us, hl with | [_, _], _ => rfl
  have m__law_pick := PySem.W.mg_of X G a__law_pick
  have F__law_same := fun_mk (st := s__law_same) l__law_same c__law_same k__law_same
  have b__law_same := F__law_same.binds (ps := ["_law_a", "_law_b"]) fun _ _ _ _ _ _ us hl => match us, hl with | [_, _], _ => rfl
  have m__law_same := PySem.W.mg_of X G a__law_same
  have F__law_menu := fun_mk (st := s__law_menu) l__law_menu c__law_menu k__law_menu
  have b__law_menu := F__law_menu.binds (ps := []) fun _ _ _ _ _ _ us hl => match us, hl with | [], _ => rfl
  have m__law_menu := PySem.W.mg_of X G a__law_menu
  have F__law_value := fun_mk (st := s__law_value) l__law_value c__law_value k__law_value
  have b__law_value := F__law_value.binds (ps := ["_law_pool_here"]) fun _ _ _ _ _ _ us hl => match us, hl with | [_], _ => rfl
  have m__law_value := PySem.W.mg_of X G a__law_value
  have F__law_due := fun_mk (st := s__law_due) l__law_due c__law_due k__law_due
  have b__law_due := F__law_due.binds (ps := ["_law_value_here"]) fun _ _ _ _ _ _ us hl => match us, hl with | [_], _ => rfl
  have m__law_due := PySem.W.mg_of X G a__law_due
  have F__law_asked := fun_mk (st := s__law_asked) l__law_asked c__law_asked k__law_asked
  have b__law_asked := F__law_asked.binds (ps := ["_law_value_here"]) fun _ _ _ _ _ _ us hl => match us, hl with | [_], _ => rfl
  have m__law_asked := PySem.W.mg_of X G a__law_asked
  have F__law_by_base := fun_mk (st := s__law_by_base) l__law_by_base c__law_by_base k__law_by_base
  have b__law_by_base := F__law_by_base.binds (ps := ["_law_value_here"]) fun _ _ _ _ _ _ us hl => match us, hl with | [_], _ => rfl
  have m__law_by_base := PySem.W.mg_of X G a__law_by_base
  have F_law := fun_mk (st := s_law) l_law c_law k_law
  have b_law := F_law.binds (ps := ["_law_script"]) fun _ _ _ _ _ _ us hl => match us, hl with | [_], _ => rfl
  have m_law := PySem.W.mg_of X G a_law
  have sup : Sup K mg "SwapError" S := ⟨PySem.W.mg_of X G a_S, ⟨rd_S, ga_S⟩, vv_S⟩
  have sc : SC K S := ⟨ic_S, ty_S⟩
  have ob : Obc K := ⟨ob_n, ob_t⟩
  have F_InvalidGraph_i := fun_mk (st := s_InvalidGraph___init__) l_InvalidGraph_i c_InvalidGraph_i k_InvalidGraph_i
  have b_InvalidGraph_i := F_InvalidGraph_i.binds (ps := ["self", "part", "path"]) fun _ _ _ _ _ _ us hl => match us, hl with | [_, _, _], _ => rfl
  have m_InvalidGraph := PySem.W.mg_of X G a_InvalidGraph
  have xc_InvalidGraph : XC K C_InvalidGraph S := ⟨⟨_, _, _, _, _, _, _, _, _, _, _, _, _, _, x_InvalidGraph⟩, sa_InvalidGraph, ga_InvalidGraph, gg_InvalidGraph, ca_InvalidGraph, kc_InvalidGraph⟩
  have F_InvalidRule_i := fun_mk (st := s_InvalidRule___init__) l_InvalidRule_i c_InvalidRule_i k_InvalidRule_i
  have b_InvalidRule_i := F_InvalidRule_i.binds (ps := ["self", "path"]) fun _ _ _ _ _ _ us hl => match us, hl with | [_, _], _ => rfl
  have m_InvalidRule := PySem.W.mg_of X G a_InvalidRule
  have xc_InvalidRule : XC K C_InvalidRule S := ⟨⟨_, _, _, _, _, _, _, _, _, _, _, _, _, _, x_InvalidRule⟩, sa_InvalidRule, ga_InvalidRule, gg_InvalidRule, ca_InvalidRule, kc_InvalidRule⟩
  refine ⟨PySem.W.fnOf "law" "law" (defArgs s_law) (defBody s_law) (defScope s_law) .none kV_law dc_law pm_law an_law cd_law ct_law, fun s v => .of_eq rfl, fun base _ _ => ?_⟩
  have h_ORDERS : ∀ H, SqT K H O_ORDERS ordV := fun H => .inr ⟨_, _, _, t_ORDERS, rfl, rfl, (by show 2 ≤ sizeLine; decide), (.cons ⟨_, rfl⟩ (.cons ⟨_, rfl⟩ .nil))⟩
  have m_ORDERS := PySem.W.mg_of X G a_ORDERS
  have h_PASTS : ∀ H, SqT K H O_PASTS pasV := fun H => .inr ⟨_, _, _, t_PASTS, rfl, rfl, (by show 3 ≤ sizeLine; decide), (.cons ⟨_, rfl⟩ (.cons ⟨_, rfl⟩ (.cons ⟨_, rfl⟩ .nil)))⟩
  have m_PASTS := PySem.W.mg_of X G a_PASTS
  have h_DATA : ∀ H, SqT K H O_DATA datV := fun H => .inr ⟨_, _, _, t_DATA, rfl, rfl, (by show 2 ≤ sizeLine; decide), (.cons ⟨_, rfl⟩ (.cons ⟨_, rfl⟩ .nil))⟩
  have m_DATA := PySem.W.mg_of X G a_DATA
  have hb := PySem.W.mg_none_of X G z_enumerate
  have D_is_tuple : Df l.prog w K mg base 1 "is_tuple" ["value", "fewest", "most"] (spIsT) := ⟨f_is_tuple, _, ok_is_tuple T F_is_tuple, m_is_tuple, F_is_tuple.kp, b_is_tuple⟩
  have X_InvalidRule : XD l.prog w K mg base 1 "InvalidRule" C_InvalidRule S ["self", "path"] (spX C_InvalidRule ["path"] [3]) := ⟨f_InvalidRule_i, _, xc_InvalidRule, xc_InvalidRule.oex, ic_InvalidRule, t_InvalidRule_i, ok_InvalidRule T xc_InvalidRule sup n_InvalidRule_path F_InvalidRule_i, b_InvalidRule_i, m_InvalidRule⟩
  have D_check_rule : DfX l.prog w K mg base 3 "check_rule" ["value"] (spCheck C_InvalidRule) := ⟨f_check_rule, _, ok_check_rule T hb X_InvalidRule D_is_tuple m_ORDERS m_PASTS m_DATA h_ORDERS h_PASTS h_DATA F_check_rule, m_check_rule, F_check_rule.kp, b_check_rule⟩
  have D_all_rules : Df l.prog w K mg base 1 "all_rules" [] (spAll) := ⟨f_all_rules, _, ok_all_rules T m_ORDERS m_PASTS m_DATA h_ORDERS h_PASTS h_DATA F_all_rules, m_all_rules, F_all_rules.kp, b_all_rules⟩
  have Ds0 : Df l.prog w K mg base 0 "_law_same" ["_law_a", "_law_b"] (spS 0) := ⟨f__law_same, _, ok_same0, m__law_same, F__law_same.kp, b__law_same⟩
  have Ds1 : Df l.prog w K mg base 1 "_law_same" ["_law_a", "_law_b"] (spS 1) := ⟨f__law_same, _, ok_same1 T F__law_same Ds0, m__law_same, F__law_same.kp, b__law_same⟩
  have Ds2 : Df l.prog w K mg base 2 "_law_same" ["_law_a", "_law_b"] (spS 2) := ⟨f__law_same, _, ok_same1 T F__law_same Ds1, m__law_same, F__law_same.kp, b__law_same⟩
  have Ds3 : Df l.prog w K mg base 3 "_law_same" ["_law_a", "_law_b"] (spS 3) := ⟨f__law_same, _, ok_same1 T F__law_same Ds2, m__law_same, F__law_same.kp, b__law_same⟩
  have Ds4 : Df l.prog w K mg base 4 "_law_same" ["_law_a", "_law_b"] (spS 4) := ⟨f__law_same, _, ok_same1 T F__law_same Ds3, m__law_same, F__law_same.kp, b__law_same⟩
  have D__law_pool : Df l.prog w K mg base 1 "_law_pool" ["_law_script"] (spPool K) := ⟨f__law_pool, _, ok_pool T F__law_pool, m__law_pool, F__law_pool.kp, b__law_pool⟩
  have D__law_draw : Df l.prog w K mg base 1 "_law_draw" ["_law_pool_here", "_law_many"] (spDraw) := ⟨f__law_draw, _, ok_draw T F__law_draw, m__law_draw, F__law_draw.kp, b__law_draw⟩
  have D__law_pick : Df l.prog w K mg base 2 "_law_pick" ["_law_pool_here", "_law_items"] (spPick K) := ⟨f__law_pick, _, ok_pick T D__law_draw F__law_pick, m__law_pick, F__law_pick.kp, b__law_pick⟩
  have D__law_menu : Df l.prog w K mg base 1 "_law_menu" [] (spMenu) := ⟨f__law_menu, _, ok_menu T F__law_menu, m__law_menu, F__law_menu.kp, b__law_menu⟩
  have D__law_value : Df l.prog w K mg base 3 "_law_value" ["_law_pool_here"] (spValue) := ⟨f__law_value, _, ok_value T D__law_draw D__law_pick D__law_menu F__law_value, m__law_value, F__law_value.kp, b__law_value⟩
  have D__law_due : Df l.prog w K mg base 1 "_law_due" ["_law_value_here"] (spDue) := ⟨f__law_due, _, ok_due T F__law_due, m__law_due, F__law_due.kp, b__law_due⟩
  have D__law_asked : Df l.prog w K mg base 4 "_law_asked" ["_law_value_here"] (spDue) := ⟨f__law_asked, _, ok_asked T X_InvalidRule n_InvalidRule_path D_check_rule F__law_asked, m__law_asked, F__law_asked.kp, b__law_asked⟩
  have D__law_by_base : Df l.prog w K mg base 4 "_law_by_base" ["_law_value_here"] (spBy) := ⟨f__law_by_base, _, ok_by T ob hCG hGS sc hSB sup xc_InvalidGraph m_InvalidGraph X_InvalidRule D_check_rule F__law_by_base, m__law_by_base, F__law_by_base.kp, b__law_by_base⟩
  exact ok_law T D__law_pool D__law_value D__law_due D__law_asked D__law_by_base Ds4 D_all_rules F_law

theorem walk {l : PySem.W.OpenLaw} {q : Program} {loose : List Str} {XP : (Str → Option Value) → Heap → Prop} {YP : World → Heap → Prop} {d : DefRec} {K : Params → PySem.W.Frag} (hn : l.most = some 63) (hdf : d.params.defaults = [])
    (hY : ∀ (w : World) (h : Heap), YP w h → (K w.params).In h)
    (F : ∀ (w : World) (mg : Str → Option Value) (fa : Addr) (h : Heap), (K w.params).In h → h.Ns mainGlobals mg → mg d.name = some (.ref fa) →
      ∃ fd : FuncData, (∀ (s : Shared) (u : Value), BindsTo s fd ⟨[u], []⟩ [("_law_script", u)]) ∧ ∀ base : Heap, (K w.params).In base → base.Ns mainGlobals mg → FnOk l.prog w (K w.params) mg base CX0 5 fa fd ["_law_script"] (spLaw (K w.params))) :
    PySem.W.WalkO q loose XP YP l.row.toRowW d [] (fun f vs => PySem.call f vs) :=
  L2.walk_of (n := 63) (k := 5) (x := "_law_script") (CX := fun _ => CX0) (sp := fun w => spLaw (K w.params)) hn (by decide) hdf ⟨rfl, by decide, by decide⟩ hY F (fun _ _ a ns hl _ hS => ⟨a, ns, rfl, hS, hl, fun _ => rfl⟩) fun _ _ _ _ _ z => z
end My

open PySem PySem.W PyProof.Rows in
set_option maxRecDepth 100000 in
set_option maxHeartbeats 0 in
theorem PySem.Challenge.cw_swappedhot_k01_rules_holds : PySem.Challenge.rw_swappedhot_k01_rules.Holds := by
  w_on; o_law; k_head; (case hw => w_witness2)
  k_fill
  refine My.walk (l := PySem.Challenge.rw_swappedhot_k01_rules) rfl rfl (fun w h Y => PySem.W.kIn_of Y) ?F
  case F =>
    intro w mg fa h KX G hmg
    refine' My.all_mk KX G hmg ?a_is_tuple ?l_is_tuple ?c_is_tuple ?k_is_tuple ?a_all_rules ?l_all_rules ?c_all_rules ?k_all_rules ?a_check_rule ?l_check_rule ?c_check_rule ?k_check_rule ?a__law_pool ?l__law_pool ?c__law_pool ?k__law_pool ?a__law_draw ?l__law_draw ?c__law_draw ?k__law_draw ?a__law_pick ?l__law_pick ?c__law_pick ?k__law_pick ?a__law_same ?l__law_same ?c__law_same ?k__law_same ?a__law_menu ?l__law_menu ?c__law_menu ?k__law_menu ?a__law_value ?l__law_value ?c__law_value ?k__law_value ?a__law_due ?l__law_due ?c__law_due ?k__law_due ?a__law_asked ?l__law_asked ?c__law_asked ?k__law_asked ?a__law_by_base ?l__law_by_base ?c__law_by_base ?k__law_by_base ?a_law ?l_law ?c_law ?k_law ?a_S ?rd_S ?ga_S ?vv_S ?ic_S ?ty_S ?ob_n ?ob_t ?a_InvalidGraph ?x_InvalidGraph ?sa_InvalidGraph ?ga_InvalidGraph ?gg_InvalidGraph ?ca_InvalidGraph ?kc_InvalidGraph ?n_InvalidGraph_part ?n_InvalidGraph_path ?ic_InvalidGraph ?l_InvalidGraph_i ?c_InvalidGraph_i ?k_InvalidGraph_i ?t_InvalidGraph_i ?a_InvalidRule ?x_InvalidRule ?sa_InvalidRule ?ga_InvalidRule ?gg_InvalidRule ?ca_InvalidRule ?kc_InvalidRule ?n_InvalidRule_path ?ic_InvalidRule ?l_InvalidRule_i ?c_InvalidRule_i ?k_InvalidRule_i ?t_InvalidRule_i ?z_len ?z_abs ?z_int ?z_isinstance ?z_tuple ?z_list ?z_dict ?z_str ?z_bool ?z_all ?z_range ?z_zip ?z_ValueError ?hCG ?hGS ?hSB ?z_enumerate ?a_ORDERS ?t_ORDERS ?a_PASTS ?t_PASTS ?a_DATA ?t_DATA
    (case a_is_tuple => k_is)
    (case l_is_tuple => k_is)
    (case c_is_tuple => k_is)
    (case k_is_tuple => k_is)
    (case a_all_rules => k_is)
    (case l_all_rules => k_is)
    (case c_all_rules => k_is)
    (case k_all_rules => k_is)
    (case a_check_rule => k_is)
    (case l_check_rule => k_is)
    (case c_check_rule => k_is)
    (case k_check_rule => k_is)
    (case a__law_pool => k_is)
    (case l__law_pool => k_is)
    (case c__law_pool => k_is)
    (case k__law_pool => k_is)
    (case a__law_draw => k_is)
    (case l__law_draw => k_is)
    (case c__law_draw => k_is)
    (case k__law_draw => k_is)
    (case a__law_pick => k_is)
    (case l__law_pick => k_is)
    (case c__law_pick => k_is)
    (case k__law_pick => k_is)
    (case a__law_same => k_is)
    (case l__law_same => k_is)
    (case c__law_same => k_is)
    (case k__law_same => k_is)
    (case a__law_menu => k_is)
    (case l__law_menu => k_is)
    (case c__law_menu => k_is)
    (case k__law_menu => k_is)
    (case a__law_value => k_is)
    (case l__law_value => k_is)
    (case c__law_value => k_is)
    (case k__law_value => k_is)
    (case a__law_due => k_is)
    (case l__law_due => k_is)
    (case c__law_due => k_is)
    (case k__law_due => k_is)
    (case a__law_asked => k_is)
    (case l__law_asked => k_is)
    (case c__law_asked => k_is)
    (case k__law_asked => k_is)
    (case a__law_by_base => k_is)
    (case l__law_by_base => k_is)
    (case c__law_by_base => k_is)
    (case k__law_by_base => k_is)
    (case a_law => k_is)
    (case l_law => k_is)
    (case c_law => k_is)
    (case k_law => k_is)
    (case a_S => k_is)
    (case rd_S => k_is)
    (case ga_S => k_is)
    (case vv_S => k_is)
    (case ic_S => k_is)
    (case ty_S => k_is)
    (case ob_n => k_is)
    (case ob_t => k_is)
    (case a_InvalidGraph => k_is)
    (case x_InvalidGraph => k_is)
    (case sa_InvalidGraph => k_is)
    (case ga_InvalidGraph => k_is)
    (case gg_InvalidGraph => k_is)
    (case ca_InvalidGraph => k_is)
    (case kc_InvalidGraph => k_is)
    (case n_InvalidGraph_part => k_is)
    (case n_InvalidGraph_path => k_is)
    (case ic_InvalidGraph => k_is)
    (case l_InvalidGraph_i => k_is)
    (case c_InvalidGraph_i => k_is)
    (case k_InvalidGraph_i => k_is)
    (case t_InvalidGraph_i => k_is)
    (case a_InvalidRule => k_is)
    (case x_InvalidRule => k_is)
    (case sa_InvalidRule => k_is)
    (case ga_InvalidRule => k_is)
    (case gg_InvalidRule => k_is)
    (case ca_InvalidRule => k_is)
    (case kc_InvalidRule => k_is)
    (case n_InvalidRule_path => k_is)
    (case ic_InvalidRule => k_is)
    (case l_InvalidRule_i => k_is)
    (case c_InvalidRule_i => k_is)
    (case k_InvalidRule_i => k_is)
    (case t_InvalidRule_i => k_is)
    (case z_len => k_is)
    (case z_abs => k_is)
    (case z_int => k_is)
    (case z_isinstance => k_is)
    (case z_tuple => k_is)
    (case z_list => k_is)
    (case z_dict => k_is)
    (case z_str => k_is)
    (case z_bool => k_is)
    (case z_all => k_is)
    (case z_range => k_is)
    (case z_zip => k_is)
    (case z_ValueError => k_is)
    (case hCG => decide)
    (case hGS => decide)
    (case hSB => k_is)
    (case z_enumerate => k_is)
    (case a_ORDERS => k_is)
    (case t_ORDERS => k_is)
    (case a_PASTS => k_is)
    (case t_PASTS => k_is)
    (case a_DATA => k_is)
    (case t_DATA => k_is)
