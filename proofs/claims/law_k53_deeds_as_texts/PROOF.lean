import PyProof.Rows.All
import Wide.All
import OpenK.AllK
import Wide.FinOn
import PyProof.EqAt
import PyProof.EqKinds
import PyProof.TupleCall
import PyProof.FString
import PyProof.FString4
import KE.KFromBytes
import KE.KExcIs
import HandS.ForMost
import HandS.Exc
import HandS.ExcOwn
import HandS.ExcInit
import HandS.ExcValue
import HandS.ExcField
import HandS.IsInst
import HandS.FStr
import HandS.FStrTup
import HandS.ClsMeth
import HandS.Wide
import HandS.Evl
import HandS.Zip
import HandS.Walk
import HandS.ExcIs
import HandS.Deep
import HandS.WordsExc
import KE.GoesEnum
import HandS.MakeKwOnly
import HandS.HeadHook2
import HandS.Dict
import HandS.NoneIn
import HandS.TupAny
import HandS.WordsDict
import HandS.More
import KE.GoesZip
import KE.GoesMore
import HandS.RaiseFrom
import HandS.SuiteRaise
import HandS.ExcInitHot
import HandS.Strs
import HandS.DictComp
import HandS.ListItems
import KE.KDictList
import PyProof.DictValues
import KE.KDictPairs
import HandS.CallSlots
import OpenK.KOps
import HandS.Iter
import HandS.TryOnly
import PySem.Challenge.RW_swappedhot_k53_deeds_as_texts
import HandS.Style
import HandS.List
import HandS.RaiseMore
import HandS.OwnEq
import KE.KRevSl
import PyProof.FactsAll.dict_1
import PyProof.FactsAll.subtypes_4
import HandS.Star
import KE.KSortTupG
import HandS.TupSets
import HandS.TupMul
import HandS.TryMany
import HandS.DictEq
import KE.KTryMore
import PyProof.P3In
import KE.KOpsOwn
import HandS.Text
import KE.KUnpackStar
import HandS.HeadHook3
import HandS.Head2
namespace Q9
abbrev a : List PySem.Str := ["_law_a", "_law_b"]
abbrev b : List PySem.Str := ["_law_pool_here", "_law_many"]
abbrev c : List PySem.Str := ["_law_pool_here", "_law_names_here", "_law_most"]
abbrev d : List PySem.Str := ["_law_pool_here", "_law_items"]
abbrev e : List PySem.Str := ["_law_pool_here", "_law_taken"]
abbrev f : List PySem.Str := ["_law_pool_here", "_law_count"]
abbrev g : List PySem.Str := ["_law_pool_here", "_law_deed"]
abbrev h : List PySem.Str := ["_law_script"]
abbrev i : List PySem.Str := ["name", "digit"]
abbrev j : List PySem.Str := ["name", "name"]
abbrev k : List PySem.Str := ["Machine"]
abbrev l : List PySem.Str := ["self", "line"]
abbrev m : List PySem.Str := ["_law_deed"]
abbrev n : List PySem.Str := ["_law_text"]
end Q9
set_option Elab.async false
set_option linter.all false
set_option maxRecDepth 100000
set_option maxHeartbeats 4000000
abbrev pa_cons_al := @L2.pa_cons
abbrev pa_nil_al := @L2.pa_nil
abbrev pss_cons_al := @L2.pss_cons
abbrev core_List_length_map_al := @List.length_map
abbrev core_List_length_append_al := @List.length_append
abbrev core_List_getElem__eq_some_iff_al := @List.getElem?_eq_some_iff
abbrev core_decide_eq_true_al := @decide_eq_true
abbrev core_List_mem_cons_of_mem_al := @List.mem_cons_of_mem
abbrev core_List_mem_cons_self_al := @List.mem_cons_self
abbrev core_List_getElem__eq_getElem_al := @List.getElem?_eq_getElem
abbrev core_List_not_mem_nil_al := @List.not_mem_nil
abbrev core_List_mem_of_getElem__al := @List.mem_of_getElem?
abbrev core_List_getElem__set_ne_al := @List.getElem?_set_ne
abbrev core_List_getElem__append_right_al := @List.getElem?_append_right
abbrev core_List_getElem__append_left_al := @List.getElem?_append_left
abbrev core_List_mem_map_of_mem_al := @List.mem_map_of_mem
abbrev core_Bool_and_eq_true_iff_al := @Bool.and_eq_true_iff
abbrev core_List_mem_cons_al := @List.mem_cons
abbrev core_decide_eq_false_al := @decide_eq_false
abbrev core_List_mem_singleton_al := @List.mem_singleton
abbrev core_List_map_append_al := @List.map_append
abbrev core_List_mem_map_al := @List.mem_map
abbrev core_List_getElem__map_al := @List.getElem?_map
abbrev core_List_length_set_al := @List.length_set
abbrev core_Nat_le_refl_al := @Nat.le_refl
abbrev core_List_length_cons_al := @List.length_cons
abbrev core_List_mem_append_al := @List.mem_append
abbrev core_Option_map_eq_some_iff_al := @Option.map_eq_some_iff
abbrev core_List_append_assoc_al := @List.append_assoc
abbrev core_List_getElem__set_self_al := @List.getElem?_set_self
abbrev core_PySem_F_plainAttrs_list_al := @PySem.F.plainAttrs_list
abbrev core_PySem_F_slot_list_append_al := @PySem.F.slot_list_append
abbrev core_PySem_F_type_list_append_al := @PySem.F.type_list_append
abbrev core_Nat_le_trans_al := @Nat.le_trans
abbrev core_List_map_map_al := @List.map_map
abbrev core_List_mem_append_left_al := @List.mem_append_left
abbrev core_List_mem_append_right_al := @List.mem_append_right
abbrev core_List_map_cons_al := @List.map_cons
abbrev core_List_length_singleton_al := @List.length_singleton
abbrev core_List_append_nil_al := @List.append_nil
abbrev core_Nat_zero_le_al := @Nat.zero_le
abbrev core_List_mem_iff_getElem__al := @List.mem_iff_getElem?
abbrev core_List_nodup_append_al := @List.nodup_append
abbrev core_List_nodup_cons_al := @List.nodup_cons
namespace Cm
open PySem PySem.Spec PyProof.Rows L2 Evl
def SmB (a : Addr) (H H' : Hp) : Prop := ∀ b o, b ≠ a -> H b = some o -> H' b = some o
theorem SmB.trans {a : Addr} {H H1 H2 : Hp} (x : SmB a H H1) (y : SmB a H1 H2) : SmB a H H2 := fun b o n h => y b o n (x b o n h)
structure PoolS (M : Addr -> Prop) (H : Hp) (p : Addr) (g s : Addr) (gs ss : List Int) (cur cnt : Int) : Prop where
 obj : H p = some (.lst [.ref g, .ref s, .int cur, .int cnt])
 great : H g = some (.lst (gs.map V.int))
 small : H s = some (.lst (ss.map V.int))
 gpos : ∀ x ∈ gs, 0 < x
 srng : ∀ x ∈ ss, 0 <= x /\ x < 1000003
 cur0 : 0 <= cur
 cnt0 : 0 <= cnt
 mg : ¬ M g
 ms : ¬ M s
def PoolAt (M : Addr -> Prop) (H : Hp) (p : Addr) : Prop := ∃ g s gs ss cur cnt, PoolS M H p g s gs ss cur cnt
theorem ref_ne_ints {a : Addr} {vs : List V} {ns : List Int} : (HO.lst (.ref a :: vs)) ≠ HO.lst (ns.map V.int) := fun z => by
 cases ns with
 | nil => cases z
 | cons n r => cases z
section
variable {M N : Addr -> Prop} {H H' : Hp} {p g s : Addr} {gs ss : List Int} {cur cnt : Int}
theorem PoolS.ns (P : PoolS M H p g s gs ss cur cnt) : s ≠ p := (ne_of P.obj P.small ref_ne_ints).symm
theorem PoolAt.some (P : PoolAt M H p) : ∃ o, H p = some o := by
 obtain ⟨g, s, gs, ss, cur, cnt, P⟩ := P
 exact ⟨_, P.obj⟩
end
structure IsName (z : Str) : Prop where
 lo : 1 <= z.length
 hi : z.length <= 8
 az : ∀ c ∈ z.cps.toList, 97 <= c /\ c <= 122
theorem name_add {z : Str} {c : Nat} (h : ∀ d ∈ z.cps.toList, 97 <= d /\ d <= 122) (hc : 97 <= c /\ c <= 122) : ∀ d ∈ (z ++ (⟨#[c]⟩ : Str)).cps.toList, 97 <= d /\ d <= 122 := by
 intro d hd
 have hd : d ∈ (z.cps ++ #[c]).toList := hd
 rw [Array.toList_append] at hd
 rcases core_List_mem_append_al.mp hd with e | e
 ·exact h d e
 ·have e' : d = c := by simpa using e
  rw [e']
  exact hc
def Rp (M : Addr -> Prop) (H : Hp) : Nat -> V -> PyData -> Prop
 | _, .non, .none => True
 | _, .bl b, .bool c => b = c
 | _, .int i, .int j => i = j
 | _, .str x, .str y => x = y
 | n + 1, .ref a, .list ds => ∃ xs, H a = some (.lst xs) /\ xs.length <= 1000 /\ Paired (Rp M H n) xs ds /\ ¬ M a
 | n + 1, .ref a, .tuple ds => ∃ xs, H a = some (.tup xs) /\ xs.length <= 1000 /\ Paired (Rp M H n) xs ds /\ ¬ M a
 | _, _, _ => False
def ExM (M : Addr -> Prop) (H H' : Hp) : Prop := ∀ a o, ¬ M a -> H a = some o -> H' a = some o
theorem ExM.trans {M : Addr -> Prop} {H H1 H2 : Hp} (a : ExM M H H1) (b : ExM M H1 H2) : ExM M H H2 := fun x o n h => b x o n (a x o n h)
theorem Rp.int {M : Addr -> Prop} {H : Hp} {n : Nat} {i : Int} : Rp M H n (.int i) (.int i) := by
 cases n <;> exact (rfl : i = i)
theorem Rp.str {M : Addr -> Prop} {H : Hp} {n : Nat} {i : Str} : Rp M H n (.str i) (.str i) := by
 cases n <;> exact (rfl : i = i)
theorem Rp.bl {M : Addr -> Prop} {H : Hp} {n : Nat} {i : Bool} : Rp M H n (.bl i) (.bool i) := by
 cases n <;> exact (rfl : i = i)
structure XC (K : PySem.W.Frag) (C S : Addr) : Prop where
 lk : ∃ nm q N bs sn sub ab col dd k0 k1 k2 k3 k5, K.lookup C = some (excClassObj nm q C N bs [.ref S, .type "ValueError", .type "Exception", .type "BaseException", .type "object"] true sn sub ab col dd k0 k1 k2 k3 k5 "ValueError.__new__")
 sa : PySem.W.findIn K (.ref C) "__setattr__" = some (some (.builtin "object.__setattr__"))
 ga : PySem.W.findIn K (.ref C) "__getattribute__" = some (some (.builtin "BaseException.__getattribute__"))
 gg : PySem.W.findIn K (.ref C) "__getattr__" = some none
 ca : PySem.W.findIn K (.ref C) "__class__" = some (some (.builtin "object.__class__"))
 kC : PySem.W.keepIn K (.ref C) = true
theorem XC.cls {K : PySem.W.Frag} {C S : Addr} (x : XC K C S) : ∃ cd : ClassData, PySem.W.clsIn K C = some cd /\ cd.mro = [.ref C, .ref S, .type "ValueError", .type "Exception", .type "BaseException", .type "object"] /\ cd.hasDict = true := by
 obtain ⟨nm, q, N, bs, sn, sub, ab, col, dd, k0, k1, k2, k3, k5, h⟩ := x.lk
 refine ⟨{ name := nm, bases := bs, mro := .ref C :: [.ref S, .type "ValueError", .type "Exception", .type "BaseException", .type "object"], ns := N, qualname := q, hasDict := true, slotNames := sn, subclasses := sub, abstract := ab, collection := col, hasDel := false }, ?_, rfl, rfl⟩
 unfold PySem.W.clsIn
 rw [h] <;> rfl
theorem XC.mro {K : PySem.W.Frag} {C S : Addr} (x : XC K C S) (b : Value) : PySem.W.mroIn K C b = some ([Value.ref C, .ref S, .type "ValueError", .type "Exception", .type "BaseException", .type "object"].contains b) := by
 obtain ⟨cd, h, hm, _⟩ := x.cls
 unfold PySem.W.mroIn
 rw [h, Option.bind_some, hm]
 rfl
end Cm
namespace Dl
open PySem PySem.Spec PyProof.Rows L2 Evl Cm
def optV : Option Int -> V
 | none => .non
 | some i => .int i
def optK (k : Option Int) : Option Key := k.map Sum.inl
def nodK (kvs : List (Option Int × Option Int)) : List (Option Key × V) := kvs.map fun p => (optK p.1, optV p.2)
def nodO (a : Addr) (kvs : List (Option Int × Option Int)) : HO := .ext fun h => kvs.length <= sizeLine /\ (a == sysModules) = false /\ ∃ (P : Program) (w : World) (vs : List (Option Key × Value)), KV (nodK kvs) vs /\ h.DictOf (noneKind P w) a vs
inductive AV where
 | non | bl (b : Bool) | int (i : Int) | str (x : Str)
 | tup (p : Bool) (xs : List AV) | lst (xs : List AV) | dic (kvs : List (AV × AV))
 | obj (c : Str) (fs : List (Str × AV)) | exc (c : Str) (fs : List (Str × AV))
 | ref (i : Nat)
 | opq (a : Addr)
 | key (ks : List Key)
inductive AO where
 | lst (xs : List AV) | dic (kvs : List (AV × AV)) | obj (c : Str) (fs : List (Str × AV)) | nod (kvs : List (Option Int × Option Int)) | lkd (kvs : List (AV × AV)) | tdc (b : Bool) (kvs : List (List Key × AV))
abbrev Store := List AO
abbrev Env := List (Option AV)
inductive Res (α : Type) where
 | ok (a : α) (S : Store) | exc (e : AV) (S : Store) | bad
namespace Res
variable {α β : Type}
def post (r : Res α) (g : α -> Store -> Prop) (x : AV -> Store -> Prop) : Prop := match r with
 | .ok a S => g a S
 | .exc e S => x e S
 | .bad => False
theorem post_mono {r : Res α} {g g' : α -> Store -> Prop} {x x' : AV -> Store -> Prop} (h : r.post g x) (hg : ∀ a S, g a S -> g' a S) (hx : ∀ e S, x e S -> x' e S) : r.post g' x' := by
 cases r with
 | ok a S => exact hg _ _ h
 | exc e S => exact hx _ _ h
 | bad => exact h
end Res
structure Co where
 K : PySem.W.Frag
 tr : List Addr
 hid : Addr -> Prop
 ex : Option (Addr × Value × Option Addr)
def Co.Out (c : Co) (a : Addr) : Prop := a ∉ c.tr /\ ¬ c.hid a
def Pln (K : PySem.W.Frag) (H : Hp) (a : Addr) : Prop := (∃ o u, H a = some (.frz o (.tup u)) /\ o.cls = .type "tuple" /\ o.dict = none) ∨ ∃ o, K.lookup a = some o /\ o.cls = .type "tuple" /\ o.dict = none
structure SOk (x : Str) : Prop where
 ok : PyData.strOk x = true
 len : x.length <= 1048576
mutual
inductive Rel (c : Co) (H : Hp) : AV -> V -> Prop
 | non : Rel c H .non .non
 | bl (b : Bool) : Rel c H (.bl b) (.bl b)
 | int (i : Int) : Rel c H (.int i) (.int i)
 | opq (a : Addr) : Rel c H (.opq a) (.ref a)
 | str {x : Str} : SOk x -> Rel c H (.str x) (.str x)
 | tup {a : Addr} {p : Bool} {xs : List AV} {vs : List V} : SqT c.K H a vs -> (p = true -> Pln c.K H a) -> Rels c H xs vs -> Rel c H (.tup p xs) (.ref a)
 | lst {a : Addr} {xs : List AV} {vs : List V} : H a = some (.lst vs) -> c.Out a -> Rels c H xs vs -> Rel c H (.lst xs) (.ref a)
 | dic {a : Addr} {kvs : List (AV × AV)} {kws : List (Key × V)} : H a = some (.dK kws) -> c.Out a -> Relk c H kvs kws -> Rel c H (.dic kvs) (.ref a)
 | obj {a dx : Addr} {n : Str} {fs : List (Str × AV)} {gs : List (Str × V)} : H a = some (.ins (He.ga c.K n) dx gs) -> c.Out a -> Relf c H fs gs -> Rel c H (.obj n fs) (.ref a)
 | exc {a : Addr} {n : Str} {d : Option Addr} {fs : List (Str × AV)} : c.ex = some (a, .ref (He.ga c.K n), d) -> Relx c H fs d -> Rel c H (.exc n fs) (.ref a)
 | ref {i : Nat} {a : Addr} : c.tr[i]? = some a -> Rel c H (.ref i) (.ref a)
 | key {a : Addr} {ks : List Key} : H a = some (.tup (ks.map kV)) -> Rel c H (.key ks) (.ref a)
inductive Rels (c : Co) (H : Hp) : List AV -> List V -> Prop
 | nil : Rels c H [] []
 | cons {x : AV} {v : V} {xs : List AV} {vs : List V} : Rel c H x v -> Rels c H xs vs -> Rels c H (x :: xs) (v :: vs)
inductive Relk (c : Co) (H : Hp) : List (AV × AV) -> List (Key × V) -> Prop
 | nil : Relk c H [] []
 | cons {k x : AV} {q : Key} {v : V} {xs : List (AV × AV)} {vs : List (Key × V)} : Rel c H k (kV q) -> Rel c H x v -> Relk c H xs vs -> Relk c H ((k, x) :: xs) ((q, v) :: vs)
inductive Relf (c : Co) (H : Hp) : List (Str × AV) -> List (Str × V) -> Prop
 | nil : Relf c H [] []
 | cons {f : Str} {x : AV} {v : V} {xs : List (Str × AV)} {vs : List (Str × V)} : Rel c H x v -> Relf c H xs vs -> Relf c H ((f, x) :: xs) ((f, v) :: vs)
inductive Relx (c : Co) (H : Hp) : List (Str × AV) -> Option Addr -> Prop
 | nil {d : Option Addr} : Relx c H [] d
 | some {dd : Addr} {fs : List (Str × AV)} {gs : List (Str × V)} : H dd = .some (.xd gs) -> c.Out dd -> Relf c H fs gs -> Relx c H fs (.some dd)
end
structure Nxt (c : Co) (H : Hp) (c' : Co) (H' : Hp) : Prop where
 K : c'.K = c.K
 ex : c'.ex = c.ex
 hid : (∀ a, c.hid a -> c'.hid a) /\ ∀ a, c'.hid a -> c.hid a ∨ H a = none
 tr : ∃ l, c'.tr = c.tr ++ l /\ ∀ a ∈ l, H a = none
 keep : ∀ a o, c.Out a -> H a = some o -> H' a = some o
 hkeep : ∀ a o, c.hid a -> H a = some o -> H' a = some o
 tup : ∀ a xs, H a = some (.tup xs) -> H' a = some (.tup xs)
 frz : ∀ a o u, H a = some (.frz o u) -> H' a = some (.frz o u)
 live : ∀ a, H a ≠ none -> H' a ≠ none
structure Nxw (c : Co) (H : Hp) (c' : Co) (H' : Hp) : Prop where
 K : c'.K = c.K
 ex : c'.ex = c.ex
 hid : (∀ a, c.hid a -> c'.hid a) /\ ∀ a, c'.hid a -> c.hid a ∨ H a = none
 tr : ∃ l, c'.tr = c.tr ++ l /\ ∀ a ∈ l, H a = none
 keep : ∀ a o, c.Out a -> H a = some o -> H' a = some o
 tup : ∀ a xs, H a = some (.tup xs) -> H' a = some (.tup xs)
 frz : ∀ a o u, H a = some (.frz o u) -> H' a = some (.frz o u)
 live : ∀ a, H a ≠ none -> H' a ≠ none
theorem Nxt.w {c c' : Co} {H H' : Hp} (n : Nxt c H c' H') : Nxw c H c' H' := ⟨n.K, n.ex, n.hid, n.tr, n.keep, n.tup, n.frz, n.live⟩
section
variable {c c' c1 c2 : Co} {H H' H1 H2 : Hp}
theorem Nxw.out (n : Nxw c H c' H') {a : Addr} (ha : c.Out a) (hn : H a ≠ none) : c'.Out a := by
 obtain ⟨l, e, h⟩ := n.tr
 refine ⟨?_, fun z => (n.hid.2 a z).elim ha.2 hn⟩
 rw [e]
 intro z
 rcases core_List_mem_append_al.mp z with z | z
 ·exact ha.1 z
 ·exact hn (h a z)
theorem Nxw.at (n : Nxw c H c' H') {i : Nat} {a : Addr} (h : c.tr[i]? = some a) : c'.tr[i]? = some a := by
 obtain ⟨l, e, _⟩ := n.tr
 rw [e, core_List_getElem__append_left_al (core_List_getElem__eq_some_iff_al.mp h).1]
 exact h
theorem Nxw.sqT (n : Nxw c H c' H') {a : Addr} {vs : List V} (h : SqT c.K H a vs) : SqT c'.K H' a vs := by
 rw [n.K]
 rcases h with (h | ⟨o, h⟩) | h
 ·exact .inl (.inl (n.tup _ _ h))
 ·exact .inl (.inr ⟨o, n.frz _ _ _ h⟩)
 ·exact .inr h
theorem Nxw.pln (n : Nxw c H c' H') {a : Addr} (h : Pln c.K H a) : Pln c'.K H' a := by
 rw [n.K]
 rcases h with ⟨o, u, h, h1, h2⟩ | h
 ·exact .inl ⟨o, u, n.frz _ _ _ h, h1, h2⟩
 ·exact .inr h
mutual
theorem Rel.nxw (n : Nxw c H c' H') : ∀ {x : AV} {v : V}, Rel c H x v -> Rel c' H' x v
 | _, _, .non => .non
 | _, _, .bl b => .bl b
 | _, _, .int i => .int i
 | _, _, .opq a => .opq a
 | _, _, .str h => .str h
 | _, _, .tup h hp r => .tup (n.sqT h) (fun z => n.pln (hp z)) (Rels.nxw n r)
 | _, _, .lst h ha r => .lst (n.keep _ _ ha h) (n.out ha (by rw [h]; simp)) (Rels.nxw n r)
 | _, _, .dic h ha r => .dic (n.keep _ _ ha h) (n.out ha (by rw [h]; simp)) (Relk.nxw n r)
 | _, _, .obj h ha r => .obj (by rw [n.K]; exact n.keep _ _ ha h) (n.out ha (by rw [h]; simp)) (Relf.nxw n r)
 | _, _, .exc h r => .exc (by rw [n.ex, n.K]; exact h) (Relx.nxw n r)
 | _, _, .ref h => .ref (n.at h)
 | _, _, .key h => .key (n.tup _ _ h)
theorem Rels.nxw (n : Nxw c H c' H') : ∀ {xs : List AV} {vs : List V}, Rels c H xs vs -> Rels c' H' xs vs
 | _, _, .nil => .nil
 | _, _, .cons r rs => .cons (Rel.nxw n r) (Rels.nxw n rs)
theorem Relk.nxw (n : Nxw c H c' H') : ∀ {xs : List (AV × AV)} {vs : List (Key × V)}, Relk c H xs vs -> Relk c' H' xs vs
 | _, _, .nil => .nil
 | _, _, .cons k r rs => .cons (Rel.nxw n k) (Rel.nxw n r) (Relk.nxw n rs)
theorem Relf.nxw (n : Nxw c H c' H') : ∀ {xs : List (Str × AV)} {vs : List (Str × V)}, Relf c H xs vs -> Relf c' H' xs vs
 | _, _, .nil => .nil
 | _, _, .cons r rs => .cons (Rel.nxw n r) (Relf.nxw n rs)
theorem Relx.nxw (n : Nxw c H c' H') : ∀ {fs : List (Str × AV)} {d : Option Addr}, Relx c H fs d -> Relx c' H' fs d
 | _, _, .nil => .nil
 | _, _, .some h ha r => .some (n.keep _ _ ha h) (n.out ha (by rw [h]; simp)) (Relf.nxw n r)
end
theorem Nxt.out (n : Nxt c H c' H') {a : Addr} (ha : c.Out a) (hn : H a ≠ none) : c'.Out a := n.w.out ha hn
theorem Nxw.trans (n : Nxw c H c1 H1) (m : Nxw c1 H1 c2 H2) : Nxw c H c2 H2 := by
 refine ⟨m.K.trans n.K, m.ex.trans n.ex, ⟨fun a h => m.hid.1 a (n.hid.1 a h), fun a h => (m.hid.2 a h).elim (n.hid.2 a) fun z => .inr ?_⟩, ?_, fun a o ha h => ?_, fun a xs h => m.tup a xs (n.tup a xs h), fun a o u h => m.frz a o u (n.frz a o u h), fun a h => m.live a (n.live a h)⟩
 ·cases q : H a with
  | none => rfl
  | some o => exact absurd z (n.live a (by rw [q]; simp))
 ·obtain ⟨l, e, h⟩ := n.tr
  obtain ⟨l', e', h'⟩ := m.tr
  refine ⟨l ++ l', by rw [e', e, core_List_append_assoc_al], fun a z => ?_⟩
  rcases core_List_mem_append_al.mp z with z | z
  ·exact h a z
  ·cases q : H a with
   | none => rfl
   | some o => exact absurd (h' a z) (n.live a (by rw [q]; simp))
 ·have q : H a ≠ none := by rw [h]; simp
  exact m.keep a o (n.out ha q) (n.keep a o ha h)
theorem Nxt.trans (n : Nxt c H c1 H1) (m : Nxt c1 H1 c2 H2) : Nxt c H c2 H2 := by
 refine ⟨m.K.trans n.K, m.ex.trans n.ex, ⟨fun a h => m.hid.1 a (n.hid.1 a h), fun a h => (m.hid.2 a h).elim (n.hid.2 a) fun z => .inr ?_⟩, ?_, fun a o ha h => ?_, fun a o ha h => m.hkeep a o (n.hid.1 a ha) (n.hkeep a o ha h), fun a xs h => m.tup a xs (n.tup a xs h), fun a o u h => m.frz a o u (n.frz a o u h), fun a h => m.live a (n.live a h)⟩
 ·cases q : H a with
  | none => rfl
  | some o => exact absurd z (n.live a (by rw [q]; simp))
 ·obtain ⟨l, e, h⟩ := n.tr
  obtain ⟨l', e', h'⟩ := m.tr
  refine ⟨l ++ l', by rw [e', e, core_List_append_assoc_al], fun a z => ?_⟩
  rcases core_List_mem_append_al.mp z with z | z
  ·exact h a z
  ·cases q : H a with
   | none => rfl
   | some o => exact absurd (h' a z) (n.live a (by rw [q]; simp))
 ·have q : H a ≠ none := by rw [h]; simp
  exact m.keep a o (n.out ha q) (n.keep a o ha h)
theorem Nxt.at (n : Nxt c H c' H') {i : Nat} {a : Addr} (h : c.tr[i]? = some a) : c'.tr[i]? = some a := n.w.at h
theorem Rel.nxt (n : Nxt c H c' H') {x : AV} {v : V} (r : Rel c H x v) : Rel c' H' x v := Rel.nxw n.w r
theorem Rels.nxt (n : Nxt c H c' H') {xs : List AV} {vs : List V} (r : Rels c H xs vs) : Rels c' H' xs vs := Rels.nxw n.w r
theorem Relk.nxt (n : Nxt c H c' H') {xs : List (AV × AV)} {vs : List (Key × V)} (r : Relk c H xs vs) : Relk c' H' xs vs := Relk.nxw n.w r
theorem Relf.nxt (n : Nxt c H c' H') {xs : List (Str × AV)} {vs : List (Str × V)} (r : Relf c H xs vs) : Relf c' H' xs vs := Relf.nxw n.w r
theorem Relx.nxt (n : Nxt c H c' H') {fs : List (Str × AV)} {d : Option Addr} (r : Relx c H fs d) : Relx c' H' fs d := Relx.nxw n.w r
end
inductive Relt (c : Co) (H : Hp) : List (List Key × AV) -> List (List Key × V) -> Prop
 | nil : Relt c H [] []
 | cons {k : List Key} {x : AV} {v : V} {xs : List (List Key × AV)} {vs : List (List Key × V)} : Rel c H x v -> Relt c H xs vs -> Relt c H ((k, x) :: xs) ((k, v) :: vs)
theorem Relt.nxt {c c' : Co} {H H' : Hp} (n : Nxt c H c' H') : ∀ {xs : List (List Key × AV)} {vs : List (List Key × V)}, Relt c H xs vs -> Relt c' H' xs vs
 | _, _, .nil => .nil
 | _, _, .cons r t => .cons (r.nxt n) (Relt.nxt n t)
def RelO (c : Co) (H : Hp) (a : Addr) : AO -> Prop
 | .lst xs => ∃ vs, H a = some (.lst vs) /\ Rels c H xs vs
 | .dic kvs => ∃ kws, H a = some (.dK kws) /\ Relk c H kvs kws
 | .obj n fs => ∃ dx gs, H a = some (.ins (He.ga c.K n) dx gs) /\ Relf c H fs gs
 | .nod kvs => H a = some (nodO a kvs)
 | .lkd kvs => ∃ od kws, H a = some (.frz od (.dK kws)) /\ Relk c H kvs kws
 | .tdc b kvs => ∃ kws, (match b with | false => H a = some (.dT kws) | true => ∃ od, H a = some (.frz od (.dT kws))) /\ Relt c H kvs kws
structure Cor (c : Co) (S : Store) (H : Hp) : Prop where
 len : S.length = c.tr.length
 nd : c.tr.Nodup
 apart : ∀ a ∈ c.tr, ¬ c.hid a
 hl : ∀ a, c.hid a -> H a ≠ none
 at_ : ∀ (i : Nat) (o : AO) (a : Addr), S[i]? = some o -> c.tr[i]? = some a -> RelO c H a o
def EnvR (c : Co) (H : Hp) (ρ : Env) (σ : L2.St) : Prop := ρ.length = σ.length /\ ∀ (i : Nat) (x : AV), ρ[i]? = some (some x) -> ∃ v, σ[i]? = some (some v) /\ Rel c H x v
theorem EnvR.nxt {c c' : Co} {H H' : Hp} {ρ : Env} {σ : L2.St} (h : EnvR c H ρ σ) (n : Nxt c H c' H') : EnvR c' H' ρ σ :=
 ⟨h.1, fun i x e => let ⟨v, e2, r⟩ := h.2 i x e; ⟨v, e2, r.nxt n⟩⟩
theorem EnvR.set {c : Co} {H : Hp} {ρ : Env} {σ : L2.St} {i : Nat} {x : AV} {v : V} (h : EnvR c H ρ σ) (r : Rel c H x v) : EnvR c H (ρ.set i (some x)) (σ.set i (some v)) := by
 refine ⟨by simp [h.1], fun j y e => ?_⟩
 by_cases q : j = i
 ·subst q
  by_cases hj : j < ρ.length
  ·rw [core_List_getElem__set_self_al hj] at e
   cases e
   exact ⟨v, by rw [core_List_getElem__set_self_al (by rw [<- h.1]; exact hj)], r⟩
  ·rw [List.getElem?_eq_none (by simpa using hj)] at e
   cases e
 ·rw [core_List_getElem__set_ne_al (Ne.symm q)] at e
  obtain ⟨w, e2, r2⟩ := h.2 j y e
  exact ⟨w, by rw [core_List_getElem__set_ne_al (Ne.symm q)]; exact e2, r2⟩
def Good (c : Co) (H : Hp) (Q : VK) : AV -> Store -> Prop := fun x S => ∀ c' H' v, Nxt c H c' H' -> Cor c' S H' -> Rel c' H' x v -> Q v H'
def RelE (c : Co) (H : Hp) : AV -> Value -> Option Addr -> Prop
 | .exc n fs, cls, d => cls = .ref (He.ga c.K n) /\ Relx c H fs d
 | _, _, _ => False
def Fall (c : Co) (H : Hp) (E : XK) : AV -> Store -> Prop := fun e S => ∀ c' H' cls d, Nxt c H c' H' -> Cor c' S H' -> RelE c' H' e cls d -> E cls d H'
section
variable {c c' : Co} {H H' : Hp} {Q : VK} {E : XK} {x : AV} {S : Store}
theorem Good.nxt (g : Good c H Q x S) (n : Nxt c H c' H') : Good c' H' Q x S := fun c2 H2 v m k r => g c2 H2 v (n.trans m) k r
theorem Fall.nxt (g : Fall c H E x S) (n : Nxt c H c' H') : Fall c' H' E x S := fun c2 H2 cls d m k r => g c2 H2 cls d (n.trans m) k r
end
section
variable {c c' : Co} {S : Store} {H H' : Hp} {x y : AV} {v u : V} {xs ys : List AV} {vs us : List V} {W : WX} {K : PySem.W.Frag} {Q : VK} {i : Nat} {a : Addr} {o : AO}
theorem Rels.len : ∀ {xs : List AV} {vs : List V}, Rels c H xs vs -> xs.length = vs.length
 | _, _, .nil => rfl
 | _, _, .cons _ r => congrArg (· + 1) (Rels.len r)
theorem Rels.at : ∀ {xs : List AV} {vs : List V} {i : Nat} {x : AV}, Rels c H xs vs -> xs[i]? = some x -> ∃ v, vs[i]? = some v /\ Rel c H x v
 | _, _, 0, _, .cons r _, e => by
  cases e
  exact ⟨_, rfl, r⟩
 | _, _, i + 1, x, .cons _ t, e => by
  obtain ⟨v, h1, h2⟩ := Rels.at (i := i) (x := x) t (by simpa using e)
  exact ⟨v, by simpa using h1, h2⟩
theorem Rels.atI {i : Int} (r : Rels c H xs vs) (e : atI xs i = some x) : ∃ v, L2.atI vs i = some v /\ Rel c H x v := by
 unfold L2.atI at e ⊢
 rw [<- r.len]
 obtain ⟨j, h1, h2⟩ := Option.bind_eq_some_iff.mp e
 obtain ⟨v, h3, h4⟩ := r.at h2
 exact ⟨v, by rw [h1]; exact h3, h4⟩
theorem Relf.len : ∀ {fs : List (Str × AV)} {gs : List (Str × V)}, Relf c H fs gs -> fs.length = gs.length
 | _, _, .nil => rfl
 | _, _, .cons _ r => congrArg (· + 1) (Relf.len r)
theorem Cor.obj (k : Cor c S H) (r : Rel c H (.ref i) v) (e : S[i]? = some o) : ∃ a, v = .ref a /\ c.tr[i]? = some a /\ RelO c H a o := by
 cases r with
 | ref h => exact ⟨_, rfl, h, k.at_ _ _ _ e h⟩
def stL (S : Store) (i : Nat) : Option (List AV) := match S[i]? with
 | some (.lst xs) => some xs
 | _ => none
def stD (S : Store) (i : Nat) : Option (List (AV × AV)) := match S[i]? with
 | some (.dic xs) => some xs
 | _ => none
def stO (S : Store) (i : Nat) : Option (Str × List (Str × AV)) := match S[i]? with
 | some (.obj n xs) => some (n, xs)
 | _ => none
theorem stL_eq {xs : List AV} : stL S i = some xs ↔ S[i]? = some (.lst xs) := by
 unfold stL
 cases S[i]? with
 | none => simp
 | some o => cases o <;> simp
mutual
def AV.same : AV -> AV -> Bool
 | .non, .non => true
 | .bl a, .bl b => a == b
 | .int a, .int b => a == b
 | .str a, .str b => a == b
 | .tup p xs, .tup q ys => p == q && sames xs ys
 | .lst xs, .lst ys => sames xs ys
 | .dic xs, .dic ys => samek xs ys
 | .obj m xs, .obj n ys => m == n && samef xs ys
 | .exc m xs, .exc n ys => m == n && samef xs ys
 | .ref i, .ref j => i == j
 | .opq i, .opq j => i == j
 | .key i, .key j => decide (i = j)
 | _, _ => false
def sames : List AV -> List AV -> Bool
 | [], [] => true
 | x :: xs, y :: ys => x.same y && sames xs ys
 | _, _ => false
def samek : List (AV × AV) -> List (AV × AV) -> Bool
 | [], [] => true
 | (k, x) :: xs, (l, y) :: ys => k.same l && (x.same y && samek xs ys)
 | _, _ => false
def samef : List (Str × AV) -> List (Str × AV) -> Bool
 | [], [] => true
 | (k, x) :: xs, (l, y) :: ys => k == l && (x.same y && samef xs ys)
 | _, _ => false
end
theorem RelO.nxt (n : Nxt c H c' H') (h : H' a = H a) (r : RelO c H a o) : RelO c' H' a o := by
 cases o with
 | lst xs =>
  obtain ⟨vs, h1, h2⟩ := r
  exact ⟨vs, by rw [h]; exact h1, h2.nxt n⟩
 | dic xs =>
  obtain ⟨vs, h1, h2⟩ := r
  exact ⟨vs, by rw [h]; exact h1, h2.nxt n⟩
 | obj m xs =>
  obtain ⟨dx, vs, h1, h2⟩ := r
  exact ⟨dx, vs, by rw [h, n.K]; exact h1, h2.nxt n⟩
 | nod xs => exact h.trans r
 | lkd xs =>
  obtain ⟨od, vs, h1, h2⟩ := r
  exact ⟨od, vs, by rw [h]; exact h1, h2.nxt n⟩
 | tdc b xs =>
  obtain ⟨vs, h1, h2⟩ := r
  refine ⟨vs, ?_, h2.nxt n⟩
  cases b with
  | false => exact h.trans h1
  | true =>
   obtain ⟨od, h1⟩ := h1
   exact ⟨od, h.trans h1⟩
end
section
variable {W : WX} {K : PySem.W.Frag} {c : Co} {S : Store} {H : Hp} {x y z : AV} {u v : V} {xs ys : List AV} {us vs : List V}
theorem Rel.s {i : Str} (r : Rel c H (.str i) v) : v = .str i /\ SOk i := by
 cases r with
 | str h => exact ⟨rfl, h⟩
end
section
variable {W : WX} {K : PySem.W.Frag} {c : Co} {S : Store} {H : Hp} {x y z : AV} {u v : V} {xs ys : List AV} {us vs : List V} {te ta : TE} {da : DE} {tl th : TO}
theorem Relk.len : ∀ {xs : List (AV × AV)} {vs : List (Key × V)}, Relk c H xs vs -> xs.length = vs.length
 | _, _, .nil => rfl
 | _, _, .cons _ _ r => congrArg (· + 1) (Relk.len r)
end
inductive Flow where
 | nx (ρ : Env) | rt (v : AV) | bk (ρ : Env) | ct (ρ : Env) | xc (ρ : Env) (e : AV)
inductive RS where
 | go (f : Flow) (S : Store) | bad
namespace RS
def post (r : RS) (N : Env -> Store -> Prop) (R : AV -> Store -> Prop) (B C : Env -> Store -> Prop) (X : Env -> AV -> Store -> Prop) : Prop := match r with
 | .go (.nx ρ) S => N ρ S
 | .go (.rt v) S => R v S
 | .go (.bk ρ) S => B ρ S
 | .go (.ct ρ) S => C ρ S
 | .go (.xc ρ e) S => X ρ e S
 | .bad => False
theorem post_mono {r : RS} {N N' : Env -> Store -> Prop} {R R' : AV -> Store -> Prop} {B B' C C' : Env -> Store -> Prop} {X X' : Env -> AV -> Store -> Prop} (h : r.post N R B C X)
  (hN : ∀ ρ S, N ρ S -> N' ρ S) (hR : ∀ v S, R v S -> R' v S) (hB : ∀ ρ S, B ρ S -> B' ρ S) (hC : ∀ ρ S, C ρ S -> C' ρ S) (hX : ∀ ρ e S, X ρ e S -> X' ρ e S) : r.post N' R' B' C' X' := by
 cases r with
 | bad => exact h
 | go f S => cases f with
  | nx ρ => exact hN _ _ h
  | rt v => exact hR _ _ h
  | bk ρ => exact hB _ _ h
  | ct ρ => exact hC _ _ h
  | xc ρ e => exact hX _ _ _ h
end RS
def GoodN (c : Co) (H : Hp) (N : L2.St -> Hp -> Prop) : Env -> Store -> Prop := fun ρ S => ∀ c' H' σ, Nxt c H c' H' -> Cor c' S H' -> EnvR c' H' ρ σ -> N σ H'
def FallS (c : Co) (H : Hp) (W : WX) : Env -> AV -> Store -> Prop := fun ρ e S => ∀ c' H' σ cls d, Nxt c H c' H' -> Cor c' S H' -> EnvR c' H' ρ σ -> RelE c' H' e cls d -> W cls d σ H'
section
variable {c c' : Co} {H H' : Hp} {N : L2.St -> Hp -> Prop} {W : WX} {ρ : Env} {S : Store} {e : AV} {σ : L2.St}
theorem GoodN.nxt (g : GoodN c H N ρ S) (n : Nxt c H c' H') : GoodN c' H' N ρ S := fun c2 H2 σ m k e => g c2 H2 σ (n.trans m) k e
theorem FallS.nxt (g : FallS c H W ρ e S) (n : Nxt c H c' H') : FallS c' H' W ρ e S := fun c2 H2 σ cls d m k e => g c2 H2 σ cls d (n.trans m) k e
end
def SP (c : Co) (H : Hp) (W : WX) (D : Ends) (r : RS) : Prop := r.post (GoodN c H D.nx) (Good c H D.rt) (GoodN c H D.bk) (GoodN c H D.ct) (FallS c H W)
theorem SP.nxt {c c' : Co} {H H' : Hp} {W : WX} {D : Ends} {r : RS} (h : SP c H W D r) (n : Nxt c H c' H') : SP c' H' W D r :=
 RS.post_mono h (fun _ _ g => g.nxt n) (fun _ _ g => g.nxt n) (fun _ _ g => g.nxt n) (fun _ _ g => g.nxt n) fun _ _ _ g => g.nxt n
section
variable {W : WX} {K : PySem.W.Frag} {c c' : Co} {S : Store} {H H' : Hp} {x y z : AV} {u v : V} {xs ys : List AV} {us vs : List V} {te ta : TE} {da de : DE} {tA : TA} {dA : DA}
def isMut : HO -> Prop
 | .lst _ => True
 | .dK _ => True
 | .dT _ => True
 | .ins _ _ _ => True
 | .ext _ => True
 | _ => False
theorem Cor.nxtSet (k : Cor c S H) {i : Nat} {a : Addr} (h : c.tr[i]? = some a) (hmu : ∃ ho, H a = some ho /\ isMut ho) {o : HO} : Nxt c H c (upd H a o) := by
 have hm : a ∈ c.tr := core_List_mem_of_getElem__al h
 obtain ⟨ho, he, mu⟩ := hmu
 have nt : ∀ b xs, H b = some (.tup xs) -> b ≠ a := fun b xs e z => by
  rw [z, he] at e
  cases e
  exact mu
 have nf : ∀ b o u, H b = some (.frz o u) -> b ≠ a := fun b o u e z => by
  rw [z, he] at e
  cases e
  exact mu
 refine ⟨rfl, rfl, ⟨fun _ h => h, fun _ h => .inl h⟩, ⟨[], by simp, fun _ h => absurd h core_List_not_mem_nil_al⟩, fun b u ho e => ?_, fun b u hb e => ?_, fun b xs e => ?_, fun b u w e => ?_, fun b e => ?_⟩
 ·rw [upd_ne fun z => ho.1 (by rw [z]; exact hm)]
  exact e
 ·rw [upd_ne fun z => k.apart a hm (by rw [<- z]; exact hb)]
  exact e
 ·rw [upd_ne (nt b xs e)]
  exact e
 ·rw [upd_ne (nf b u w e)]
  exact e
 ·by_cases z : b = a
  ·rw [z, upd_same]
   simp
  ·rw [upd_ne z]
   exact e
theorem Cor.set (k : Cor c S H) {i : Nat} {a : Addr} (h : c.tr[i]? = some a) (hm : ∃ ho, H a = some ho /\ isMut ho) {ho : HO} {o : AO} (r : RelO c (upd H a ho) a o) : Cor c (S.set i o) (upd H a ho) := by
 have n := k.nxtSet h hm (o := ho)
 refine ⟨by rw [core_List_length_set_al]; exact k.len, k.nd, k.apart, fun b hb => n.live b (k.hl b hb), fun j q b e1 e2 => ?_⟩
 by_cases z : j = i
 ·subst z
  rw [h] at e2
  cases e2
  have hl : j < S.length := by
   rw [k.len]
   exact (core_List_getElem__eq_some_iff_al.mp h).1
  rw [core_List_getElem__set_self_al hl] at e1
  cases e1
  exact r
 ·rw [core_List_getElem__set_ne_al (Ne.symm z)] at e1
  have nb : b ≠ a := fun w => z ((List.getElem?_inj (core_List_getElem__eq_some_iff_al.mp e2).1 k.nd).mp (by rw [e2, h, w]))
  exact (k.at_ j q b e1 e2).nxt n (upd_ne nb)
end
section
variable {ρ ρ1 ρ2 : Dl.Env} {S S1 S2 S3 S4 : Store} {x y z v : AV} {xs ys avs : List AV} {da db dc de dx dy dv : DE} {dA dr : DA} {dT dU : DT} {d d' db' : DS} {dg : DG} {b b1 b2 : Bool} {i n : Nat}
theorem stL_set_same {q : Nat} (h : q < S.length) : stL (S.set q (.lst xs)) q = some xs := by
 unfold stL
 rw [core_List_getElem__set_self_al h]
theorem stL_lt {q : Nat} (h : stL S q = some xs) : q < S.length := (core_List_getElem__eq_some_iff_al.mp (stL_eq.mp h)).1
end
end Dl
namespace My
open PySem PySem.Spec PyProof.Rows L2 Evl Cm
def top (i : Nat) : Stmt := PySem.Challenge.pw_swappedhot_k53_deeds_as_texts.main.body.getD i (.Pass ⟨0, 0, 0, 0⟩)
end My
namespace Dl
open PySem PySem.Spec PyProof.Rows L2 Evl Cm
section
variable {W : WX} {K : PySem.W.Frag} {te tv td ty : TE} {de dv dd dy : DE}
theorem Rels.set {c : Co} {H : Hp} {x : AV} {v : V} (r : Rel c H x v) : ∀ {xs : List AV} {vs : List V} (j : Nat), Rels c H xs vs -> Rels c H (xs.set j x) (vs.set j v)
 | _, _, _, .nil => .nil
 | _, _, 0, .cons _ t => .cons r t
 | _, _, j + 1, .cons q t => .cons q (Rels.set r j t)
end
section
variable {c c' : Co} {H H' : Hp} {W : WX} {K : PySem.W.Frag} {S : Store}
def Co.bare (K : PySem.W.Frag) : Co := ⟨K, [], fun _ => False, none⟩
end
section
variable {W : WX} {K : PySem.W.Frag} {c c' : Co} {S S2 : Store} {H H' H1 : Hp} {x y z : AV} {u v : V} {xs ys : List AV} {us vs : List V} {te ta tb td tk tv : TE} {da db dd dz de dk dv d : DE} {tA : TA} {dA : DA} {tT : TT} {dT : DT} {t : TS} {ds : DS}
theorem Relt.len : ∀ {ks : List (List Key × AV)} {kws : List (List Key × V)}, Relt c H ks kws -> ks.length = kws.length
 | _, _, .nil => rfl
 | _, _, .cons _ t => congrArg (· + 1) (Relt.len t)
end
end Dl
namespace Dn
open PySem PySem.Spec PyProof.Rows L2 Evl Cm Dl
def oA : Option Int -> AV
 | none => .non
 | some i => .int i
structure In1 where
 o : Nat
 h : Nat
 e : Nat
 mod : Str
 ed : Int
 word : AV
 holds : List (Str × Option Int)
 ents : List Int
def hK (l : List (Str × Option Int)) : List (AV × AV) := l.map fun p => (.str p.1, oA p.2)
def In1.fs (x : In1) : List (Str × AV) := [("module", .str x.mod), ("edition", .int x.ed), ("word", x.word), ("holds", .ref x.h), ("entries", .ref x.e)]
structure Mach where
 im : Nat
 iI : Nat
 iC : Nat
 iL : Nat
 iK : Nat
 iT : Nat
 g : AV
 s : AV
 insts : List In1
 cur : List (Str × Option Int)
 lis : List (Int × Str × Str × Str)
 car : List (AV × AV)
 tr : List AV
def Mach.fs (M : Mach) : List (Str × AV) := [("graph", M.g), ("sources", M.s), ("instances", .ref M.iI), ("current", .ref M.iC), ("listeners", .ref M.iL), ("carried", .ref M.iK), ("trace", .ref M.iT)]
def lisA (l : Int × Str × Str × Str) : AV := .tup false [.int l.1, .str l.2.1, .str l.2.2.1, .str l.2.2.2]
def Mach.places (M : Mach) : List Nat := [M.im, M.iI, M.iC, M.iL, M.iK, M.iT] ++ M.insts.flatMap fun x => [x.o, x.h, x.e]
structure Inst (S : Store) (x : In1) : Prop where
 o : stO S x.o = some (("Instance" : Str), x.fs)
 h : stD S x.h = some (hK x.holds)
 e : stL S x.e = some (x.ents.map .int)
structure R (S : Store) (M : Mach) : Prop where
 m : stO S M.im = some (("Machine" : Str), M.fs)
 i : stL S M.iI = some (M.insts.map fun x => .ref x.o)
 c : stD S M.iC = some (hK M.cur)
 l : stL S M.iL = some (M.lis.map lisA)
 k : stD S M.iK = some M.car
 t : stL S M.iT = some M.tr
 ins : ∀ x ∈ M.insts, Inst S x
 nd : M.places.Nodup
def Keep (ps : List Nat) (S S' : Store) : Prop := ∀ i, i < S.length -> i ∉ ps -> S'[i]? = S[i]?
theorem Keep.set {S : Store} {q : Nat} {o : AO} : Keep [q] S (S.set q o) := fun i _ hn => core_List_getElem__set_ne_al fun z => hn (by rw [z]; exact core_List_mem_singleton_al.mpr rfl)
theorem Keep.trans {ps qs : List Nat} {S S1 S2 : Store} (h : Keep ps S S1) (hl : S.length <= S1.length) (k : Keep qs S1 S2) : Keep (ps ++ qs) S S2 := fun i hi hn => by
 rw [core_List_mem_append_al, not_or] at hn
 exact (k i (Nat.lt_of_lt_of_le hi hl) hn.2).trans (h i hi hn.1)
def lookS : List (Str × Option Int) -> Str -> Option (Option Int)
 | [], _ => none
 | p :: r, k => if p.1 = k then some p.2 else lookS r k
inductive Row where
 | hold (s m : Str) | enter (m : Str) | cell (w : Str) | lis (held : Bool) (e l : Str)
structure PI where
 mod : Str
 ed : Int
 word : AV
 holds : List (Str × Option Int)
 ents : List Int
structure PM where
 insts : List PI
 cur : List (Str × Option Int)
 lis : List (Int × Str × Str × Str)
 car : List (AV × AV)
 tr : List AV
structure Goes (S S' : Store) (M M' : Mach) : Prop where
 r : R S' M'
 im : M'.im = M.im
 g : M'.g = M.g
 s : M'.s = M.s
 len : S.length <= S'.length
theorem Goes.trans {S S1 S2 : Store} {M M1 M2 : Mach} (a : Goes S S1 M M1) (b : Goes S1 S2 M1 M2) : Goes S S2 M M2 := ⟨b.r, b.im.trans a.im, b.g.trans a.g, b.s.trans a.s, core_Nat_le_trans_al a.len b.len⟩
structure Ed where
 imp : List Str
 body : List Row
 acc : AV
 cle : AV
structure Gr where
 words : AV
 events : AV
 mods : List (Str × List Ed)
 top : Str
 most : Int
def Gr.names (g : Gr) : List Str := g.mods.map (·.1)
def Gr.eds (g : Gr) (n : Str) : List Ed := ((g.mods[g.names.idxOf n]?).map (·.2)).getD []
def PI.links (x : PI) : List (Option Int) := x.holds.map (·.2) ++ x.ents.map some
def PM.roots (M : PM) : List (Option Int) := M.cur.map (·.2) ++ M.lis.map fun l => some l.1
def TT1 (S : Store) (r : List AO) (fs : List (Str × AV)) : Store := S ++ (.obj "Machine" fs :: r)
theorem TT1.set {S : Store} {r : List AO} {fs fs' : List (Str × AV)} : (TT1 S r fs).set S.length (.obj "Machine" fs') = TT1 S r fs' := by
 unfold TT1
 rw [List.set_append_right _ _ (core_Nat_le_refl_al _), Nat.sub_self]
 rfl
theorem TT1.len {S : Store} {r : List AO} {fs : List (Str × AV)} : (TT1 S r fs).length = S.length + 1 + r.length := by
 unfold TT1
 simp
 omega
def PI.none : PI := ⟨"", 0, .non, [], []⟩
def Inb (n : Nat) (l : List (Option Int)) : Prop := ∀ i, some i ∈ l -> 0 <= i /\ i < n
def keysS (l : List (Str × Option Int)) : List Str := l.map (·.1)
def nones (l : List (Str × Option Int)) : Nat := (l.filter fun p => p.2.isNone).length
theorem lookS_mem : ∀ {l : List (Str × Option Int)} {k : Str} {v : Option Int}, lookS l k = some v -> (k, v) ∈ l
 | p :: r, k, v, h => by
  unfold lookS at h
  split at h
  ·rename_i e
   cases h
   rw [<- e]
   exact core_List_mem_cons_self_al
  ·exact core_List_mem_cons_of_mem_al _ (lookS_mem h)
theorem key_of {l : List (Str × Option Int)} {k : Str} {v : Option Int} (h : lookS l k = some v) : k ∈ keysS l := core_List_mem_map_of_mem_al (f := (·.1)) (lookS_mem h)
def Row.In (names : List Str) : Row -> Prop
 | .hold _ m => m ∈ names
 | .enter m => m ∈ names
 | _ => True
def PM.s1 (m : PM) : Nat := m.lis.length + (m.insts.map (·.ents.length)).sum
def PM.s2 (m : PM) : Nat := (m.insts.map (·.holds.length)).sum
structure Iv (g : Gr) (m : PM) : Prop where
 nd : (keysS m.cur).Nodup
 keys : ∀ n ∈ g.names, n ∈ keysS m.cur
 cl : m.cur.length <= g.mods.length
 cur : Inb m.insts.length (m.cur.map (·.2))
 cnt : m.insts.length + nones m.cur = m.cur.length
 lis : Inb m.insts.length (m.lis.map fun l => some l.1)
 lnk : ∀ x ∈ m.insts, Inb m.insts.length x.links
 tr : m.tr.length = m.insts.length
 car : m.car = []
theorem Iv.n {g : Gr} {m : PM} (h : Iv g m) : m.insts.length <= g.mods.length := by
 have := h.cnt
 have := h.cl
 omega
theorem Iv.set {g : Gr} {m : PM} {k : Nat} {x : PI} (h : Iv g m) (hx : Inb m.insts.length x.links) : Iv g { m with insts := m.insts.set k x } := by
 have hl : (m.insts.set k x).length = m.insts.length := core_List_length_set_al
 refine ⟨h.nd, h.keys, h.cl, ?_, ?_, ?_, fun y hy => ?_, ?_, h.car⟩
 ·show Inb (m.insts.set k x).length _
  rw [hl]
  exact h.cur
 ·show (m.insts.set k x).length + _ = _
  rw [hl]
  exact h.cnt
 ·show Inb (m.insts.set k x).length _
  rw [hl]
  exact h.lis
 ·show Inb (m.insts.set k x).length _
  rw [hl]
  rcases List.mem_or_eq_of_mem_set hy with z | rfl
  ·exact h.lnk y z
  ·exact hx
 ·show m.tr.length = (m.insts.set k x).length
  rw [hl]
  exact h.tr
structure RunGo (g : Gr) (B : Nat) (m m' : PM) : Prop where
 iv : Iv g m'
 n : m.insts.length <= m'.insts.length
 s1 : m'.s1 + B * m.insts.length <= m.s1 + B * m'.insts.length
 s2 : m'.s2 + 6 * m.insts.length <= m.s2 + 6 * m'.insts.length
 no : nones m'.cur <= nones m.cur
 mono : ∀ w j, lookS m.cur w = some (some j) -> ∃ j', lookS m'.cur w = some (some j')
theorem RunGo.trans {g : Gr} {B : Nat} {m m1 m2 : PM} (a : RunGo g B m m1) (b : RunGo g B m1 m2) : RunGo g B m m2 :=
 ⟨b.iv, core_Nat_le_trans_al a.n b.n, by have := a.s1; have := b.s1; omega, by have := a.s2; have := b.s2; omega, core_Nat_le_trans_al b.no a.no, fun w j h => let ⟨j', h'⟩ := a.mono w j h; b.mono w j' h'⟩
def Row.isCell : Row -> Bool
 | .cell _ => true
 | _ => false
def NoZ (z : Str) : Prop := z.length = 8 -> z.cps.toList.head? = some 122 -> z.cps.toList[7]? = some 97 ∨ z.cps.toList[7]? = some 98
def Row.Ok (imp events words : List Str) : Row -> Prop
 | .hold s m => (IsName s /\ NoZ s) /\ m ∈ imp
 | .enter m => m ∈ imp
 | .cell w => w ∈ words
 | .lis false e m => e ∈ events /\ m ∈ imp
 | .lis true e s => e ∈ events /\ IsName s
inductive Acc where
 | self | imp (n : Str) (rows : List Row)
def Acc.Ok (imp events words : List Str) : Acc -> Prop
 | .self => True
 | .imp n rows => n ∈ imp /\ rows.length <= 3 /\ ∀ r ∈ rows, r.Ok imp events words /\ r.isCell = false
inductive Cle where
 | unlisten | carry | leave (n : Str)
def Cle.Ok (imp : List Str) : Cle -> Prop
 | .leave n => n ∈ imp
 | _ => True
def pl (gr sm : List Int) (n k : Int) : List AV := [.lst (gr.map .int), .lst (sm.map .int), .int n, .int k]
def Pool (S : Store) (p : Nat) : Prop := ∃ gr sm n k, stL S p = some (pl gr sm n k)
structure Go (p : Nat) (S S' : Store) : Prop where
 len : S.length <= S'.length
 same : ∀ q, q ≠ p -> q < S.length -> S'[q]? = S[q]?
 pool : Pool S' p
theorem Go.trans {p : Nat} {S S1 S2 : Store} (h : Go p S S1) (h' : Go p S1 S2) : Go p S S2 := ⟨core_Nat_le_trans_al h.len h'.len, fun q hq hl => (h'.same q hq (Nat.lt_of_lt_of_le hl h.len)).trans (h.same q hq hl), h'.pool⟩
theorem Go.set {p : Nat} {S : Store} {xs : List AV} {gr sm : List Int} {n k : Int} (h : stL S p = some xs) : Go p S (S.set p (.lst (pl gr sm n k))) :=
 ⟨by rw [core_List_length_set_al]; exact core_Nat_le_refl_al _, fun q hq _ => by rw [core_List_getElem__set_ne_al (Ne.symm hq)], gr, sm, n, k, stL_set_same (stL_lt h)⟩
structure Drawn (z : Str) : Prop where
 nm : IsName z
 ns : z ≠ "self"
 fst : z.length = 8 -> z.cps.toList.head? ≠ some 122
def zed (i : Nat) : Str := "zzzzzzz" ++ ⟨#[97 + i]⟩
theorem zed_name {i : Nat} (h : i < 26) : IsName (zed i) := by
 refine ⟨?_, ?_, name_add (by decide +kernel) ⟨by omega, by omega⟩⟩
 ·unfold zed; rw [strLen_append]; show 1 <= 7 + 1; decide
 ·unfold zed; rw [strLen_append]; show 7 + 1 <= 8; decide
theorem zed_len (i : Nat) : (zed i).length = 8 := by unfold zed; rw [strLen_append]; rfl
theorem self_len : (("self" : Str)).length = 4 := rfl
theorem zed_self (i : Nat) : zed i ≠ "self" := fun h => by
 have := congrArg Str.length h
 rw [zed_len, self_len] at this
 exact absurd this (by decide)
structure Nms (l : List Str) : Prop where
 nd : l.Nodup
 at_ : ∀ (i : Nat) (z : Str), l[i]? = some z -> Drawn z ∨ (z = zed i /\ i < 26)
theorem Nms.name {l : List Str} (h : Nms l) {z : Str} (hz : z ∈ l) : IsName z /\ z ≠ "self" := by
 obtain ⟨i, hi⟩ := core_List_mem_iff_getElem__al.mp hz
 rcases h.at_ i z hi with d | ⟨rfl, h26⟩
 ·exact ⟨d.nm, d.ns⟩
 ·exact ⟨zed_name h26, zed_self i⟩
structure Rule where
 order : Str
 past : Str
 data : Str
def LisOk (events : List Str) (g : Gr) (l : Int × Str × Str × Str) : Prop := l.2.1 ∈ events /\ ((l.2.2.1 = "listen" /\ l.2.2.2 ∈ g.names) ∨ (l.2.2.1 = "listenheld" /\ IsName l.2.2.2))
structure PIok (words : List Str) (g : Gr) (U : List Str) (n : Nat) (x : PI) : Prop where
 mod : x.mod ∈ g.names
 ed : ∃ E, L2.atI (g.eds x.mod) x.ed = some E
 w : x.word = .non ∨ ∃ w ∈ words, x.word = .str w
 hn : (x.holds.map (·.1)).Nodup
 hu : ∀ p ∈ x.holds, p.1 ∈ U
 ents : (x.ents.length : Int) <= g.most
 lnk : Inb n x.links
structure Iw (words events : List Str) (g : Gr) (U : List Str) (m : PM) : Prop where
 keys : keysS m.cur = g.names
 lis : (m.lis.length : Int) <= g.most
 lisI : Inb m.insts.length (m.lis.map fun l => some l.1)
 lisO : ∀ l ∈ m.lis, LisOk events g l
 curI : Inb m.insts.length (m.cur.map (·.2))
 own : ∀ n j, lookS m.cur n = some (some j) -> ∃ x, m.insts[j.toNat]? = some x /\ x.mod = n
 ins : ∀ x ∈ m.insts, PIok words g U m.insts.length x
 car : ∀ p ∈ m.car, ∃ n ∈ g.names, ∃ w ∈ words, p = (.str n, .str w)
 carN : (m.car.map (·.1)).Nodup
structure BdA (A : List Int) (m : PM) : Prop where
 r : ∀ i, some i ∈ m.roots -> i ∈ A
 c : ∀ i ∈ A, ∀ x, m.insts[i.toNat]? = some x -> ∀ j, some j ∈ x.links -> j ∈ A
section
variable {words events : List Str} {B : Nat} {g : Gr} {U : List Str}
theorem Iw.name {m : PM} (h : Iw words events g U m) {n : Str} {v : Option Int} (hv : lookS m.cur n = some v) : n ∈ g.names := by
 rw [<- h.keys]
 exact key_of hv
theorem Iw.set {m : PM} {k : Nat} {x y : PI} (h : Iw words events g U m) (hk : m.insts[k]? = some y) (hm : x.mod = y.mod) (hx : PIok words g U m.insts.length x) : Iw words events g U { m with insts := m.insts.set k x } := by
 have hl : (m.insts.set k x).length = m.insts.length := core_List_length_set_al
 refine ⟨h.keys, h.lis, ?_, h.lisO, ?_, fun n j hj => ?_, fun z hz => ?_, h.car, h.carN⟩
 ·show Inb (m.insts.set k x).length _
  rw [hl]
  exact h.lisI
 ·show Inb (m.insts.set k x).length _
  rw [hl]
  exact h.curI
 ·obtain ⟨z, hz, e⟩ := h.own n j hj
  show ∃ z, (m.insts.set k x)[j.toNat]? = some z /\ _
  rw [List.getElem?_set]
  split
  ·rename_i ek
   subst ek
   have hlt := (core_List_getElem__eq_some_iff_al.mp hk).1
   rw [if_pos hlt]
   rw [hk] at hz
   injection hz with hz
   exact ⟨x, rfl, by rw [hm, hz, e]⟩
  ·exact ⟨z, hz, e⟩
 ·show PIok words g U (m.insts.set k x).length z
  rw [hl]
  rcases List.mem_or_eq_of_mem_set hz with q | rfl
  ·exact h.ins z q
  ·exact hx
theorem BdA.set {A : List Int} {m : PM} {k : Nat} {x y : PI} (h : BdA A m) (hk : m.insts[k]? = some y) (hl : ∀ j, some j ∈ x.links -> j ∈ A ∨ some j ∈ y.links) : BdA A { m with insts := m.insts.set k x } := by
 refine ⟨h.r, fun i hi z hz j hj => ?_⟩
 have hz : (m.insts.set k x)[i.toNat]? = some z := hz
 rw [List.getElem?_set] at hz
 split at hz
 ·rename_i ek
  split at hz
  ·injection hz with hz
   subst hz
   rcases hl j hj with q | q
   ·exact q
   ·exact h.c i hi y (by rw [<- ek]; exact hk) j q
  ·cases hz
 ·exact h.c i hi z hz j hj
structure RowJ (words events : List Str) (g : Gr) (U : List Str) (A : List Int) (m0 m : PM) : Prop where
 iw : Iw words events g U m
 bd : BdA A m
 n : m.insts.length = m0.insts.length
 cur : m.cur = m0.cur
 tr : m.tr = m0.tr
 car : m.car = m0.car
 md : ∀ i : Nat, (m.insts[i]?).map PI.mod = (m0.insts[i]?).map PI.mod /\ (m.insts[i]?).map PI.ed = (m0.insts[i]?).map PI.ed
theorem md_set {l : List PI} {k : Nat} {x y : PI} (hk : l[k]? = some y) (h1 : x.mod = y.mod) (h2 : x.ed = y.ed) (i : Nat) : ((l.set k x)[i]?).map PI.mod = (l[i]?).map PI.mod /\ ((l.set k x)[i]?).map PI.ed = (l[i]?).map PI.ed := by
 rw [List.getElem?_set]
 split
 ·rename_i e
  subst e
  rw [if_pos (core_List_getElem__eq_some_iff_al.mp hk).1, hk]
  exact ⟨by simp [h1], by simp [h2]⟩
 ·exact ⟨rfl, rfl⟩
theorem RowJ.set {A : List Int} {m0 m : PM} {k : Nat} {x y : PI} (h : RowJ words events g U A m0 m) (hk : m.insts[k]? = some y) (h1 : x.mod = y.mod) (h2 : x.ed = y.ed) (hx : PIok words g U m.insts.length x) (hl : ∀ j, some j ∈ x.links -> j ∈ A ∨ some j ∈ y.links) : RowJ words events g U A m0 { m with insts := m.insts.set k x } :=
 ⟨h.iw.set hk h1 hx, h.bd.set hk hl, core_List_length_set_al.trans h.n, h.cur, h.tr, h.car, fun i => by
  obtain ⟨a, b⟩ := md_set hk h1 h2 i
  obtain ⟨c, d⟩ := h.md i
  exact ⟨a.trans c, b.trans d⟩⟩
end
section
variable {words events : List Str} {B : Nat} {g : Gr} {U : List Str}
def TrD (tr : List AV) : Prop := ∀ t ∈ tr, ∃ l : List Str, t = .tup false (l.map .str)
structure P2 (words events : List Str) (g : Gr) (U : List Str) (T : Nat) (m : PM) : Prop where
 iw : Iw words events g U m
 n : m.insts.length + nones m.cur <= 12
 t : m.tr.length + nones m.cur <= T
 bd : ∃ A : List Int, (A.length : Int) <= g.most /\ BdA A m
 td : TrD m.tr
theorem P2.row {T : Nat} {A : List Int} {m m' : PM} (h : P2 words events g U T m) (hA : (A.length : Int) <= g.most) (r : RowJ words events g U A m m') : P2 words events g U T m' := ⟨r.iw, by rw [r.n, r.cur]; exact h.n, by rw [r.tr, r.cur]; exact h.t, ⟨A, hA, r.bd⟩, by rw [r.tr]; exact h.td⟩
end
def ORDERS : List Str := ["near", "far"]
def PASTS : List Str := ["reload", "stay", "again"]
def DATA : List Str := ["kept", "lost"]
structure Rule.Ok (r : Rule) : Prop where
 o : r.order ∈ ORDERS
 p : r.past ∈ PASTS
 d : r.data ∈ DATA
end Dn
namespace Dl
open PySem PySem.Spec PyProof.Rows L2 Evl Cm
section
variable {K : PySem.W.Frag}
def dig (n : Nat) : Str := PySem.Str.ofString (toString (n : Int))
end
def tupAt (K : PySem.W.Frag) (b : Addr) (zs : List Str) : Bool := match K.lookup b with
 | some ⟨.type c, _, .seq its _, _⟩ => decide (c = "tuple") && (decide (its.size <= sizeLine) && He.relAll (zs.map V.str) its.toList)
 | _ => false
def tabB (K : PySem.W.Frag) (d : Addr) (l : List (Str × List Str)) : Bool := l.all fun q => match PySem.W.nsIn K d q.1 with
 | some (some (.ref b)) => tupAt K b q.2
 | _ => false
end Dl
namespace Dn
open PySem PySem.Spec PyProof.Rows L2 Evl Cm Dl
open My (top)
section
variable {P : Program} {w : World} {K : PySem.W.Frag} {mg : Str -> Option Value} {base : Heap}
abbrev s__law_draw : Stmt := top 16
abbrev s__law_name : Stmt := top 18
abbrev s__law_names : Stmt := top 19
abbrev s__law_pick : Stmt := top 17
abbrev s__law_any_deed : Stmt := top 22
abbrev s__law_line : Stmt := top 21
abbrev s_write_deed : Stmt := top 11
abbrev s_write_deeds : Stmt := top 10
abbrev s__law_same : Stmt := top 20
abbrev s_is_name : Stmt := top 2
abbrev s_is_digit : Stmt := top 9
abbrev s_read_deed : Stmt := top 13
abbrev s_read_deeds : Stmt := top 12
abbrev s__law_read : Stmt := top 24
abbrev s__law_wrong_line : Stmt := top 23
end
section
variable {P : Program} {w : World} {K : PySem.W.Frag} {mg : Str -> Option Value} {base : Heap}
abbrev s_InvalidText___init__ : Stmt := inClass (top 5) 0
end
end Dn
namespace Dn
open PySem PySem.Spec PyProof.Rows L2 Evl Cm Dl TL
section
variable {S S1 : Store} {ρ : Dl.Env}
def Pl (z : Str) : Prop := ∀ c ∈ tl z, c < 128
end
section
variable {S S1 : Store} {ρ : Dl.Env}
structure PsOk (ys : List Str) : Prop where
 ne : ys ≠ []
 l : ys.length <= 6
 pl : ∀ z ∈ ys, Pl z
 sp : ∀ z ∈ ys, 32 ∉ tl z
 nl : ∀ z ∈ ys, 10 ∉ tl z
 z : ∀ z ∈ ys, z.length <= 10
end
section
variable {S S1 T : Store} {ρ : Dl.Env} {p q : Nat}
inductive Dd where
 | edit (n : Str) (k : Nat)
 | fire (n : Str)
 | set (n w : Str)
 | reload
def Dd.pq : Dd -> List (AV × Str)
 | .edit n k => [(.str "edit", "edit"), (.str n, n), (.int (k : Nat), dig k)]
 | .fire n => [(.str "fire", "fire"), (.str n, n)]
 | .set n w => [(.str "set", "set"), (.str n, n), (.str w, w)]
 | .reload => [(.str "reload", "reload")]
def Dd.ps (d : Dd) : List Str := d.pq.map (·.2)
def Dd.Ok : Dd -> Prop
 | .edit n k => IsName n /\ k < 10
 | .fire n => IsName n
 | .set n w => IsName n /\ IsName w
 | .reload => True
structure PtOk (z : Str) : Prop where
 pl : Pl z
 sp : 32 ∉ tl z
 nl : 10 ∉ tl z
 z : z.length <= 10
theorem ptok_name {z : Str} (h : IsName z) : PtOk z := ⟨fun c hc => by have := h.az c hc; omega, fun hc => by have := h.az 32 hc; omega, fun hc => by have := h.az 10 hc; omega, by have := h.hi; omega⟩
theorem dig_tl : ∀ k : Nat, k < 10 -> tl (dig k) = [48 + k] := by decide +kernel
theorem ptok_dig {k : Nat} (h : k < 10) : PtOk (dig k) := by
 have e := dig_tl k h
 refine ⟨fun c hc => ?_, fun hc => ?_, fun hc => ?_, ?_⟩
 ·rw [e, core_List_mem_singleton_al] at hc; omega
 ·rw [e, core_List_mem_singleton_al] at hc; omega
 ·rw [e, core_List_mem_singleton_al] at hc; omega
 ·rw [len_tl, e]; show 1 <= 10; decide
theorem ptok_c {z : Str} (h : ((tl z).all fun c => decide (c < 128) && (decide (c ≠ 32) && decide (c ≠ 10))) = true) (hl : z.length <= 10) : PtOk z := by
 have key : ∀ c ∈ tl z, c < 128 /\ c ≠ 32 /\ c ≠ 10 := fun c hc => by
  have := List.all_eq_true.mp h c hc
  obtain ⟨a, b⟩ := core_Bool_and_eq_true_iff_al.mp this
  obtain ⟨b, c⟩ := core_Bool_and_eq_true_iff_al.mp b
  exact ⟨of_decide_eq_true a, of_decide_eq_true b, of_decide_eq_true c⟩
 exact ⟨fun c hc => (key c hc).1, fun hc => (key 32 hc).2.1 rfl, fun hc => (key 10 hc).2.2 rfl, hl⟩
theorem psok_of {ys : List Str} (hne : ys ≠ []) (hl : ys.length <= 6) (h : ∀ z ∈ ys, PtOk z) : PsOk ys := ⟨hne, hl, fun z hz => (h z hz).pl, fun z hz => (h z hz).sp, fun z hz => (h z hz).nl, fun z hz => (h z hz).z⟩
theorem Dd.pt {d : Dd} (h : d.Ok) : ∀ z ∈ d.ps, PtOk z := by
 have e1 : PtOk "edit" := ptok_c (by decide) (by decide)
 have e2 : PtOk "fire" := ptok_c (by decide) (by decide)
 have e3 : PtOk "set" := ptok_c (by decide) (by decide)
 have e4 : PtOk "reload" := ptok_c (by decide) (by decide)
 intro z hz
 cases d with
 | edit n k =>
  simp only [Dd.ps, Dd.pq, core_List_map_cons_al, List.map_nil, core_List_mem_cons_al, core_List_not_mem_nil_al, or_false] at hz
  rcases hz with rfl | rfl | rfl
  ·exact e1
  ·exact ptok_name h.1
  ·exact ptok_dig h.2
 | fire n =>
  simp only [Dd.ps, Dd.pq, core_List_map_cons_al, List.map_nil, core_List_mem_cons_al, core_List_not_mem_nil_al, or_false] at hz
  rcases hz with rfl | rfl
  ·exact e2
  ·exact ptok_name h
 | set n w =>
  simp only [Dd.ps, Dd.pq, core_List_map_cons_al, List.map_nil, core_List_mem_cons_al, core_List_not_mem_nil_al, or_false] at hz
  rcases hz with rfl | rfl | rfl
  ·exact e3
  ·exact ptok_name h.1
  ·exact ptok_name h.2
 | reload =>
  simp only [Dd.ps, Dd.pq, core_List_map_cons_al, List.map_nil, core_List_mem_cons_al, core_List_not_mem_nil_al, or_false] at hz
  rw [hz]
  exact e4
theorem Dd.n3 (d : Dd) : 1 <= d.ps.length /\ d.ps.length <= 3 := by cases d <;> simp [Dd.ps, Dd.pq]
theorem Dd.ok {d : Dd} (h : d.Ok) : PsOk d.ps := psok_of (fun e => by have := d.n3.1; rw [e] at this; cases this) (by have := d.n3.2; omega) (Dd.pt h)
end
end Dn
namespace My
open PySem PySem.Spec PyProof.Rows L2 Evl Cm
section
variable {P : Program} {w : World} {K : PySem.W.Frag} {mg : Str -> Option Value} {base : Heap}
abbrev s__law_pool : Stmt := top 15
end
end My
namespace Dn
open PySem PySem.Spec PyProof.Rows L2 Evl Cm Dl
open My
open My (top)
section
variable {P : Program} {w : World} {K : PySem.W.Frag} {mg : Str -> Option Value} {base : Heap}
abbrev s_law : Stmt := top 25
end
end Dn
namespace Hf
open PySem PySem.Spec PyProof.Rows L2 He Cm Dl HandSHeadRun
def excB (K : PySem.W.Frag) (C S : Addr) : Bool := match K.lookup C with
 | some ⟨.type t, _, .cls cd, sl⟩ => (match cd.mro, sl.toList with
  | [.ref C', .ref S', .type a, .type b, .type c, .type d], [_, _, _, _, some (.builtin n), _] =>
   decide (t = "type") && (decide (C' = C) && (decide (S' = S) && (decide (a = "ValueError") && (decide (b = "Exception") && (decide (c = "BaseException") && (decide (d = "object") && (decide (n = "ValueError.__new__") && (!cd.hasDel && cd.hasDict))))))))
  | _, _ => false)
 | _ => false
def xcB (x y : Str) (K : PySem.W.Frag) : Bool := excB K (ga K x) (ga K y) && (eqO (PySem.W.findIn K (.ref (ga K x)) "__setattr__") (some (some (.builtin "object.__setattr__"))) && (eqO (PySem.W.findIn K (.ref (ga K x)) "__getattribute__") (some (some (.builtin "BaseException.__getattribute__"))) &&
 (eqO (PySem.W.findIn K (.ref (ga K x)) "__getattr__") (some none) && (eqO (PySem.W.findIn K (.ref (ga K x)) "__class__") (some (some (.builtin "object.__class__"))) && PySem.W.keepIn K (.ref (ga K x))))))
def supB (x : Str) (K : PySem.W.Frag) : Bool := PySem.W.readsIn K (ga K x) (.type "type") && (eqO (PySem.W.specialIn K (.ref (ga K x)) "__getattribute__") (some (some (.builtin "type.__getattribute__"))) &&
 ((match PySem.W.findCls K (.ref (ga K x)) (.type "type") "__init__" with
  | some (.val (.builtin b)) => decide (b = "ValueError.__init__")
  | _ => false) && (PySem.W.isClsIn K (ga K x) && decide (PySem.W.typeIn K (.ref (ga K x)) = some (.type "type")))))
def obB (K : PySem.W.Frag) : Bool := eqO (PySem.W.specialIn K (.builtin "object.__class__") "__get__") (some (some (.builtin "getset_descriptor.__get__"))) && decide (PySem.W.takesIn K (.builtin "object.__class__") = some true)
def icB (x : Str) (K : PySem.W.Frag) : Bool := eqO (PySem.W.findIn K (.ref (ga K x)) "__init__") (some (some (.ref (ma K (ga K x) "__init__")))) && decide (PySem.W.typeIn K (.ref (ma K (ga K x) "__init__")) = some (.type "function"))
abbrev AlP : Type := Bool × List FnW × List (Option (List (Option (Str × Int))))
structure Pt where
 fa : List Fa
 ex : List (PySem.W.Frag -> Bool)
 fn : List DefD
 ts : List Tab
def Pt.obs (p : Pt) (K : PySem.W.Frag) : AlP := ((p.fa.all fun f => f.ok K) && ((p.ex.all fun f => f K) && p.fn.all fun d => d.ok K), p.fn.map fun d => fnW K d.at_, p.ts.map fun t => dicW K (t.1 K))
def Pt.val (p : Pt) (w : World) : AlP := (true, p.fn.map DefD.val, p.ts.map fun t => some (keysIn w.params t.2))
def hook (as : List Addr) (ps : List Pt) : PySem.W.Hook where
 α := List AlP
 obs := fun s => ps.map fun p => p.obs (frG s.heap.get? as)
 val := fun w => ps.map fun p => p.val w
 says := fun w h => ∃ K : PySem.W.Frag, K.In h /\ ps.map (fun p => p.obs K) = ps.map fun p => p.val w
 of := fun _ _ e => ⟨_, frG_in, e⟩
 keeps := fun _ _ _ ⟨K, hK, c⟩ k => ⟨K, PySem.W.Frag.In.keeps hK k, c⟩
def ob (as : List Addr) (ps : List Pt) (s : PySem.W.SharedT) : List AlP := ps.map fun p => p.obs (frG (getT s) as)
def Part (r : PySem.W.OpenRow) (M : Nat) (as : List Addr) (p : Pt) : Prop := ∀ (w : World) (os : OsState), (endF (stepQ (denQ tabQ) r.prog w) M r.prog w os).map (fun s => p.obs (frG (getT s) as)) = some (p.val w)
theorem run_all {r : PySem.W.OpenRow} {q : Program} {M : Nat} {loose : List Str} {w : World} {as : List Addr} {ps : List Pt} (h0 : RunEq r q PySem.W.Hook.none (fun _ => ()) M loose w) (h : ∀ p ∈ ps, Part r M as p) : RunEq r q (hook as ps) (ob as ps) M loose w := by
 intro os
 have e := h0 os
 obtain ⟨s, es, ev⟩ := core_Option_map_eq_some_iff_al.mp e
 have e1 := congrArg (fun z => z.1) ev
 have e2 := congrArg (fun z => z.2.1) ev
 have e3 : ob as ps s = ps.map fun p => p.val w := List.map_congr_left fun p hp => by
  have z := h p hp w os
  rw [es, Option.map_some] at z
  exact Option.some.inj z
 rw [es]
 exact congrArg some (Prod.ext e1 (Prod.ext e2 e3))
theorem by_row {P : World -> Prop} (row : String) (h : ∀ (b : Bool) (w : World), P (w.withFollow row b)) (w : World) : P w := by
 have := h (w.params.followText row) w
 rwa [World.withFollow_self] at this
theorem part_row {r : PySem.W.OpenRow} {M : Nat} {as : List Addr} {p : Pt} (row : String) (h : ∀ (b : Bool) (w : World) (os : OsState), (endF (stepQ (denQ tabQ) r.prog (w.withFollow row b)) M r.prog (w.withFollow row b) os).map (fun s => p.obs (frG (getT s) as)) = some (p.val (w.withFollow row b))) : Part r M as p := fun w =>
 by_row (P := fun w => ∀ os : OsState, (endF (stepQ (denQ tabQ) r.prog w) M r.prog w os).map (fun s => p.obs (frG (getT s) as)) = some (p.val w)) row h w
def dd (x : Str) (s : Stmt) : DefD := ⟨(x, none), x, x, defArgs s, defBody s, defScope s, [], []⟩
def dm (C m q : Str) (s : Stmt) : DefD := ⟨(C, some m), m, q, defArgs s, defBody s, defScope s, [], []⟩
end Hf
namespace My
open PySem PySem.Spec PyProof.Rows L2 Evl Cm Dl
def fa0_0 : List He.Fa := [.glo "_law_pool", .glo "_law_draw", .glo "_law_name", .glo "_law_names", .glo "_law_pick", .glo "_law_any_deed", .glo "_law_line", .glo "write_deed", .glo "write_deeds", .glo "_law_same", .glo "is_name", .glo "is_digit", .glo "read_deed", .glo "read_deeds", .glo "_law_read", .glo "_law_wrong_line", .glo "law", .glo "SwapError", .glo "InvalidText", .noat "InvalidText" "line", .free "ValueError", .free "abs", .free "all", .free "any", .free "bool", .free "dict", .free "enumerate", .free "int", .free "isinstance", .free "len", .free "list", .free "max", .free "min", .free "range", .free "sorted", .free "str", .free "sum", .free "tuple", .free "zip", .glo "DEEDS"]
def fa0_1 : List He.Fa := [.str "LETTERS" "abcdefghijklmnopqrstuvwxyz", .str "DIGITS" "0123456789"]
def fa0 : List He.Fa := fa0_0 ++ (fa0_1)
def ex0_0 : List (PySem.W.Frag -> Bool) := [Hf.supB "SwapError", Hf.obB, Hf.xcB "InvalidText" "SwapError", Hf.icB "InvalidText", fun K => Dl.tabB K (He.ga K "DEEDS") [("edit", Q9.i), ("fire", ["name"]), ("set", Q9.j), ("reload", [])]]
def ex0 : List (PySem.W.Frag -> Bool) := ex0_0
def fn0_0 : List He.DefD := [Hf.dd "_law_pool" My.s__law_pool, Hf.dd "_law_draw" Dn.s__law_draw, Hf.dd "_law_name" Dn.s__law_name, Hf.dd "_law_names" Dn.s__law_names, Hf.dd "_law_pick" Dn.s__law_pick, Hf.dd "_law_any_deed" Dn.s__law_any_deed, Hf.dd "_law_line" Dn.s__law_line, Hf.dd "write_deed" Dn.s_write_deed, Hf.dd "write_deeds" Dn.s_write_deeds, Hf.dd "_law_same" Dn.s__law_same, Hf.dd "is_name" Dn.s_is_name, Hf.dd "is_digit" Dn.s_is_digit, Hf.dd "read_deed" Dn.s_read_deed, Hf.dd "read_deeds" Dn.s_read_deeds, Hf.dd "_law_read" Dn.s__law_read, Hf.dd "_law_wrong_line" Dn.s__law_wrong_line, Hf.dd "law" Dn.s_law, Hf.dm "InvalidText" "__init__" "InvalidText.__init__" Dn.s_InvalidText___init__]
def fn0 : List He.DefD := fn0_0
def pt0 : Hf.Pt := ⟨fa0, ex0, fn0, [(fun K => He.ga K "DEEDS", ["edit", "fire", "set", "reload"])]⟩
def nms_0 : List PySem.Str := [("__name__" : PySem.Str), ("LETTERS" : PySem.Str), ("is_name" : PySem.Str), ("SwapError" : PySem.Str), ("InvalidText" : PySem.Str), ("DIGITS" : PySem.Str), ("DEEDS" : PySem.Str), ("is_digit" : PySem.Str), ("write_deeds" : PySem.Str), ("write_deed" : PySem.Str)]
def nms_1 : List PySem.Str := [("read_deeds" : PySem.Str), ("read_deed" : PySem.Str), ("_law_pool" : PySem.Str), ("_law_draw" : PySem.Str), ("_law_pick" : PySem.Str), ("_law_name" : PySem.Str), ("_law_names" : PySem.Str), ("_law_same" : PySem.Str), ("_law_line" : PySem.Str), ("_law_any_deed" : PySem.Str)]
def nms_2 : List PySem.Str := [("_law_wrong_line" : PySem.Str), ("_law_read" : PySem.Str)]
def nms : List PySem.Str := nms_0 ++ (nms_1 ++ (nms_2))
def adrs_0 : List Addr := [2, 3, 15, 18, 19, 20, 27, 28, 29, 30, 33, 40, 42, 43, 45, 46, 47, 48, 49, 52, 53, 54, 55, 56, 57, 59, 60, 62, 63, 64, 67, 68, 69, 72, 73, 74, 76, 77, 79, 80]
def adrs_1 : List Addr := [81, 84, 85, 86, 89, 90, 91, 93, 94, 96, 97, 98, 100, 101, 103, 104, 105, 107, 108, 110, 111, 112, 114, 115, 117, 118, 119, 122, 123, 124, 127, 128, 129, 131, 132, 134, 135, 136, 138, 139]
def adrs_2 : List Addr := [141, 142, 143, 145, 146, 148, 149, 150, 153, 154]
def adrs : List Addr := adrs_0 ++ (adrs_1 ++ (adrs_2))
abbrev RR : PySem.W.OpenRow := PySem.W.OpenLaw.row PySem.Challenge.rw_swappedhot_k53_deeds_as_texts
abbrev qv : Program := PySem.W.view RR.prog [25]
set_option maxHeartbeats 0 in
theorem run0 (w : World) : HandSHeadRun.RunEq RR qv PySem.W.Hook.none (fun _ => ()) 1473 nms w := Hf.by_row (P := fun w => HandSHeadRun.RunEq RR qv PySem.W.Hook.none (fun _ => ()) 1473 nms w) "special-get-raises" (fun b w => by
 cases b
 ·intro os
  kernel_rfl
 ·intro os
  kernel_rfl) w
set_option maxHeartbeats 0
abbrev dL : PySem.DefRec := HandSHeadRun.topDef RR.prog 25
theorem hd1 : PySem.W.opening RR.prog = PySem.W.plainProg RR.prog.main.scope.names := by kernel_rfl
theorem hd2 (s : PySem.Shared) : PySem.fenceModules? RR.prog s = some s := by kernel_rfl
theorem hd3 : PySem.W.defOf qv RR.name = some (dL, []) := by kernel_rfl
theorem hd4 : RR.prog.theDef RR.name = some (dL.params, dL.body, dL.scope) := by kernel_rfl
theorem hd5 : PySem.W.kwWritten? dL.params.kwonlyargs dL.params.kw_defaults = some [] := by kernel_rfl
theorem hd6 : (PySem.W.chainsOk qv && PySem.W.opensWell RR.prog && (PySem.W.frees RR.toRowW && RR.within.isEmpty)) = true := by decide +kernel
theorem hd7 : RR.prog.bare := ⟨rfl, rfl, rfl, rfl, rfl, by decide +kernel⟩
theorem part0 : Hf.Part RR 1473 adrs pt0 := Hf.part_row "special-get-raises" fun b w os => by
 cases b
 ·kernel_rfl
 ·kernel_rfl
theorem run1 (w : World) : HandSHeadRun.RunEq RR qv (Hf.hook adrs [pt0]) (Hf.ob adrs [pt0]) 1473 nms w := Hf.run_all (run0 w) (by
 simp only [List.forall_mem_cons]
 exact ⟨part0, fun _ h => absurd h core_List_not_mem_nil_al⟩)
end My
namespace Cm
open PySem PySem.Spec PyProof.Rows L2 Evl
theorem SmB.l {K : PySem.W.Frag} {H H' : Hp} {a p : Addr} {xs : List V} (e : SmB p H H') (n : a ≠ p) (h : SqL K H a xs) : SqL K H' a xs := by
 rcases h with (h | ⟨o, h⟩) | h
 ·exact .inl (.inl (e _ _ n h))
 ·exact .inl (.inr ⟨o, e _ _ n h⟩)
 ·exact .inr h
def absI (x : Int) : Int := if x < 0 then -x else x
theorem given_ints (n : Nat) (f : Nat -> Bool) (g : Nat -> Int) : given n f (fun i => V.int (g i)) = (((List.range n).filter f).map g).map V.int := by
 unfold given
 rw [core_List_map_map_al]
 rfl
theorem given_mem {n : Nat} {f : Nat -> Bool} {g : Nat -> Int} {x : Int} (h : x ∈ ((List.range n).filter f).map g) : ∃ i, f i = true /\ g i = x := by
 obtain ⟨i, hi, e⟩ := core_List_mem_map_al.mp h
 exact ⟨i, (List.mem_filter.mp hi).2, e⟩
theorem map_getD {ns : List Int} {i : Nat} {x : V} (h : (ns.map V.int)[i]? = some x) : x = .int (ns.getD i 0) := by
 rw [core_List_getElem__map_al] at h
 cases e : ns[i]? with
 | none =>
  rw [e] at h
  cases h
 | some z =>
  rw [e] at h
  have h' := Option.some.inj h
  rw [<- h']
  simp [List.getD, e]
theorem given_all (ns : List Int) : given (ns.map V.int).length (fun _ => true) (fun i => V.int (ns.getD i 0)) = ns.map V.int := by
 unfold given
 rw [core_List_length_map_al, List.filter_eq_self.mpr (fun _ _ => rfl)]
 apply List.ext_getElem?
 intro i
 by_cases h : i < ns.length
 ·simp [List.getD, h]
 ·simp [h, Nat.le_of_not_lt h]
theorem cut_ints (ns : List Int) (lo hi : Option Int) : ∃ cs : List Int, cutV (ns.map V.int) lo hi = cs.map V.int /\ cs.length <= ns.length := by
 refine ⟨(ns.drop (HT.sIx ns.length 0 lo)).take (HT.sIx ns.length ns.length hi - HT.sIx ns.length 0 lo), ?_, ?_⟩
 ·unfold cutV
  rw [core_List_length_map_al, List.map_take, List.map_drop]
 ·rw [List.length_take, List.length_drop]
  omega
abbrev AZ : Str := "abcdefghijklmnopqrstuvwxyz"
theorem az_at : ∀ i : Nat, i < 26 -> AZ.cps.toList[i]? = some (97 + i) := by decide +kernel
def tyD : PyData -> String
 | .none => "NoneType"
 | .bool _ => "bool"
 | .int _ => "int"
 | .str _ => "str"
 | .list _ => "list"
 | .tuple _ => "tuple"
 | .dict _ => "dict"
def isA (T : String) : PyData -> Bool
 | .none => T == "NoneType"
 | .bool _ => T == "bool" || T == "int"
 | .int _ => T == "int"
 | .str _ => T == "str"
 | .list _ => T == "list"
 | .tuple _ => T == "tuple"
 | .dict _ => T == "dict"
theorem kit_isA {T : String} (hT : T = "tuple" ∨ T = "list" ∨ T = "bool" ∨ T = "int" ∨ T = "str" ∨ T = "dict") (d : PyData) : kitB (tyD d) T = some (isA T d) := by
 rcases hT with rfl | rfl | rfl | rfl | rfl | rfl <;> cases d <;> (show kitB _ _ = some _) <;> (simp only [tyD, isA]) <;> decide +kernel
structure Sup (K : PySem.W.Frag) (mg : Str -> Option Value) (x : Str) (S : Addr) : Prop where
 g : mg x = some (.ref S)
 rd : ClX.CRead K S (.type "type")
 vv : PySem.W.findCls K (.ref S) (.type "type") "__init__" = some (.val (.builtin "ValueError.__init__"))
section
variable {X : Cx} {e : Expr} {es : List Expr} {te : TE} {ta : TA} {p1 p2 p pos : Pos}
theorem pe_sinit {x : Str} {S : Addr} {pl : Sem Bool} (hg : Gl X x) (s : Sup X.K X.mg x S) (ha : PA X (e :: es) ta)
  (hc : eval (.Call (.Attribute (.Name x p1) "__init__" p2) (e :: es) [] pos) X.env = (do
   let ov <- eval (.Name x p1) X.env
   standAt p2.atName
   let (f, first) <- holding [ov] (getMethod ov "__init__" pl)
   callWith pos f first (backTo pos (starEach (e :: es) X.env)) (backToKw pos (keywordEach [] X.env))) := by rfl)
  (he : starEach (e :: es) X.env = (false, eval e X.env) :: starEach es X.env := by rfl) (hpl : (backTo pos (starEach es X.env)).any (·.1) = false := by rfl) (hdb : (x == ("__debug__" : Str)) = false := by decide) :
  PE X (.Call (.Attribute (.Name x p1) "__init__" p2) (e :: es) [] pos) (tVeI X.K ta) := by
 refine ⟨fun pins sh σ H Q I h => ?_⟩
 refine PySem.W.methodCall_KW (ld_glob I hg s.g ?_ hdb) hc
 refine PySem.W.method_cls I.kIn s.rd.ga (PySem.W.cls_value I.kIn s.rd.rd s.vv (by decide +kernel) ?_)
 show wpAny _ _ (callWith pos (Value.builtin "ValueError.__init__") [] (backTo pos (starEach (e :: es) X.env)) []) _ _ _
 refine PyProof.Rows.callWith_method1 (thn (ha.run pos pins _ σ H _ (I.tok _) h) fun us s1 ⟨vs, H1, I1, r1, a, C, ws, ev, hl, T, ea, q⟩ => ?_) he hpl
 subst ev
 cases r1 with
 | @cons _ u0 _ ur ra rw' =>
  obtain rfl : u0 = Value.ref a := ra
  have hlen : ur.length <= sizeLine := by
   rw [<- Paired.length rw', sizeLine_eq]
   omega
  exact oinit_ok T I1 ea hlen fun s' J => ⟨.non, H1, J, rfl, q⟩
inductive ExAt (H : Hp) (a C : Addr) : Prop where
 | own (d : Option Addr) (h : H a = some (exo a C d)) (hd : ∀ dd, d = some dd -> ∃ fs, H dd = some (exd dd fs))
 | bare (h : H a = some (ExO (.ref C) a))
end
abbrev VP := V -> Hp -> Prop
theorem XC.ty {K : PySem.W.Frag} {C S : Addr} (x : XC K C S) : PySem.W.typeIn K (.ref C) = some (.type "type") := by
 obtain ⟨nm, q, N, bs, sn, sub, ab, col, dd, k0, k1, k2, k3, k5, h⟩ := x.lk
 show (K.lookup C).map (·.cls) = _
 rw [h] <;> rfl
theorem XC.hd {K : PySem.W.Frag} {C S : Addr} (x : XC K C S) : PySem.W.hasDictIn K C = true := by
 obtain ⟨cd, h, _, hd⟩ := x.cls
 unfold PySem.W.hasDictIn
 rw [h]
 exact hd
theorem XC.exC {K : PySem.W.Frag} {C S : Addr} (x : XC K C S) : PySem.W.subIn K (.ref C) (.type "BaseException") = some true := by
 show PySem.W.mroIn K C _ = _
 rw [x.mro]
 simp
theorem XC.oex {K : PySem.W.Frag} {C S : Addr} (x : XC K C S) : OexC K C := by
 obtain ⟨nm, q, N, bs, sn, sub, ab, col, dd, k0, k1, k2, k3, k5, h⟩ := x.lk
 exact ⟨⟨nm, q, N, bs, _, sn, sub, ab, col, dd, k0, k1, k2, k3, k5, h, rfl⟩, x.sa, x.exC, x.ty, x.kC⟩
theorem XC.xf {K : PySem.W.Frag} {C S : Addr} (x : XC K C S) : XfC K C := ⟨x.ga, x.gg, x.exC, x.hd⟩
structure Obc (K : PySem.W.Frag) : Prop where
 hn : PySem.W.specialIn K (.builtin "object.__class__") "__get__" = some (some (.builtin "getset_descriptor.__get__"))
 ht : PySem.W.takesIn K (.builtin "object.__class__") = some true
theorem XC.kit {K : PySem.W.Frag} {C S D T : Addr} (x : XC K C S) (y : XC K D T) : PySem.W.kitOne K (.ref C) (.ref D) = some (decide (D = C) || decide (D = S)) := by
 unfold PySem.W.kitOne PySem.W.kitCls
 by_cases h : C = D
 ·subst h
  simp
 ·obtain ⟨cd, hc, _⟩ := y.cls
  have e1 : ((PySem.W.clsIn K D).isSome && PySem.W.typeIn K (.ref D) == some (.type "type")) = true := by rw [hc, y.ty] <;> rfl
  rw [if_neg (by simpa using h)]
  show (if _ then _ else _) = _
  rw [if_pos e1]
  show PySem.W.mroIn K C _ = _
  rw [x.mro]
  have h' : ¬ D = C := fun z => h z.symm
  by_cases h2 : D = S
  ·simp [h', h2]
  ·simp [h', h2]
def PartOk (t : TE) (σ : L2.St) (H : Hp) : Prop := ∀ Q : VK, (∀ y : Str, y.length <= 3000000 -> Q (.str y) H) -> t σ H Q
theorem js_ok {σ : L2.St} {H : Hp} {Q : Str -> Hp -> Prop} (q : ∀ out, Q out H) : ∀ (ts : List TE) (acc : Str), (∀ t ∈ ts, PartOk t σ H) -> acc.length + 3000000 * ts.length <= 16777216 -> tJs ts acc σ H Q
 | [], acc, _, _ => q acc
 | t :: ts, acc, h, hl => h t core_List_mem_cons_self_al _ fun y hy => by
  rw [core_List_length_cons_al] at hl
  have e := strLen_append acc y
  refine ⟨y, rfl, ?_, js_ok q ts (acc ++ y) (fun u hu => h u (core_List_mem_cons_of_mem_al _ hu)) ?_⟩
  ·rw [e, sizeLine_eq]
   omega
  ·rw [e]
   omega
theorem part_c {σ : L2.St} {H : Hp} {x : Str} (h : x.length <= 3000000) : PartOk (tC (.str x)) σ H := fun Q q => q x h
theorem part_i {σ : L2.St} {H : Hp} {i : Nat} {x : Int} (hs : σ[i]? = some (some (.int x))) (h : x.natAbs.log2 < 1920) : PartOk (tFmt (tVar i)) σ H := fun Q q => ⟨_, hs, .inr ⟨x, rfl, h, q _ (core_Nat_le_trans_al (PyProof.Rows.int_text_len_1921 h) (by decide))⟩⟩
section
variable {K : PySem.W.Frag} {tl te : TE} {j : Nat} {vs : List Nat} {σ : L2.St} {H : Hp} {M : Addr -> Prop} {n : Nat} {ds : List PyData} {xs : List V} {a : Addr}
theorem seq_drop {D : Ends} {tz : TS} (h : te σ H fun _ H1 => tz D σ H1) : tSeq (tDrop te) tz D σ H := h
end
structure SC (K : PySem.W.Frag) (S : Addr) : Prop where
 cls : PySem.W.isClsIn K S = true
 ty : PySem.W.typeIn K (.ref S) = some (.type "type")
theorem XC.exm {K : PySem.W.Frag} {C S D T : Addr} (x : XC K C S) (y : XC K D T) : PySem.W.exmOne K (.ref C) (.ref D) = some (decide (D = C) || decide (D = S)) := by
 have e1 : (PySem.W.subIn K (.ref D) (.type "BaseException") == some true) = true := by rw [y.exC] <;> rfl
 show (if (PySem.W.subIn K (.ref D) (.type "BaseException") == some true) = true then PySem.W.kitCls K (.ref C) (.ref D) else none) = _
 rw [if_pos e1]
 have h := x.kit y
 unfold PySem.W.kitOne at h
 by_cases hCD : C = D
 ·subst hCD
  obtain ⟨cd, hc, _⟩ := x.cls
  have e2 : ((PySem.W.clsIn K C).isSome && PySem.W.typeIn K (.ref C) == some (.type "type")) = true := by rw [hc, x.ty] <;> rfl
  unfold PySem.W.kitCls
  show (if _ then _ else _) = _
  rw [if_pos e2]
  show PySem.W.mroIn K C _ = _
  rw [x.mro]
  simp
 ·rw [if_neg (by simpa using hCD)] at h
  exact h
theorem u65 {k : Nat} {A : Around} (hr : Room k A) : A.units + 65 < cLine := by
 have z := hr.un
 omega
theorem meets_enum_newT (t : Addr) (items : Array Value) :
  Meets (Builtin.«enumerate.__new__» { pos := [Value.type "enumerate", Value.ref t] }) fun x R s =>
    s.heap.IsTuple t items /\
      R (Except.ok (Flow.ret (Value.ref (s.heap.push { cls := Value.type "tuple_iterator", data := Data.fields #[Value.ref t, Value.int 0 0] }).objs.size)))
        { heap := (s.heap.push { cls := Value.type "tuple_iterator", data := Data.fields #[Value.ref t, Value.int 0 0] }).push
              { cls := Value.type "enumerate", data := Data.fields #[Value.none, Value.bool false, Value.ref s.heap.objs.size, rawInt 0, Value.none, Value.none] },
          gens := s.gens, drawn := s.drawn, toks := s.toks, os := s.os } := by
  refine Meets.of_wp fun prog w A R s h => ?_
  obtain ⟨hp, g, d, tk, os⟩ := s
  obtain ⟨hT, h⟩ := h
  have hsub := sub_enumerate
  refine wpAny_bind ?_
  refine wpAny_bind ?_
  refine wpAny_pure ?_
  refine wpAny_ite_false rfl ?_
  refine wpAny_bind ?_
  refine wpAny_of_eq hsub ?_
  refine wpAny_ite_false rfl ?_
  refine wpAny_pure ?_
  refine wpAny_ite_true rfl ?_
  refine wpAny_bind ?_
  refine wpAny_bind ?_
  refine wpAny_stack_any fun st => ?_
  refine wpAny_pure ?_
  have fin : wpAny (model prog w) A.in1 (pyIter (Value.ref t)) (fun v s' => wpAny (model prog w) A.in1 (Builtin.SmallTypes.newRecord (Value.type "enumerate") (Builtin.SmallTypes.ownedTupleFields ++ [v, rawInt 0, Value.none, Value.none])) (fun v s' => wpAny (model prog w) A.in1 (ret v) (fun fin s' => ∃ v, fin = Fin.done (Flow.ret v) /\ R (Except.ok (Flow.ret v)) s') (fun e s' => R (Except.error e) s') s') (fun e s' => R (Except.error e) s') s') (fun e s' => R (Except.error e) s') ⟨hp, g, d, tk, os⟩ := by
    refine (begins_tuple t items).iter _ _ _ _ _ _ hT ?_
    unfold Builtin.SmallTypes.newRecord
    show wpAny (model prog w) A.in1 (newObj (Value.type "enumerate") _) _ _ _
    refine wpAny_newObj_type ?_ ?_
    · exact wpAny_pure ⟨_, rfl, h⟩
    · show 6 <= sizeLine + 2
      decide
  have fin2 : ∀ {F : Sem (Fin)}, F = (do
      let v <- pyIter (Value.ref t)
      let v <- Builtin.SmallTypes.newRecord (Value.type "enumerate") (Builtin.SmallTypes.ownedTupleFields ++ [v, rawInt 0, Value.none, Value.none])
      ret v) -> wpAny (model prog w) A.in1 F (fun fin s' => ∃ v, fin = Fin.done (Flow.ret v) /\ R (Except.ok (Flow.ret v)) s') (fun e s' => R (Except.error e) s') ⟨hp, g, d, tk, os⟩ := fun e => by
    rw [e]
    exact wpAny_bind (wpAny_mono fin (fun v s1 hv => wpAny_bind hv) (fun e s1 z => z))
  split
  · rename_i c tl kw snd tl1 heq
    cases (c == Value.type "enumerate") with
    | true => exact wpAny_ite_true rfl (wpAny_bind (wpAny_pure (fin2 rfl)))
    | false => exact wpAny_ite_false rfl (wpAny_bind (wpAny_pure (fin2 rfl)))
  · exact wpAny_ite_false rfl (wpAny_bind (wpAny_pure (fin2 rfl)))
theorem call_enum_tuple {prog : Program} {w : World} {A : Around} {E : Value -> Shared -> Prop} {s : Shared} {t : Addr} {items : Array Value} {Q : Value -> Shared -> Prop} (hT : s.heap.IsTuple t items)
  (h : ∀ h' : Heap, IsEnum h' (s.heap.objs.size + 1) s.heap.objs.size 0 Value.none -> h'.IsTupleIter s.heap.objs.size t 0 -> h'.objs.size = s.heap.objs.size + 2 -> (∀ (b : Addr) (o : Obj), s.heap.get? b = some o -> h'.get? b = some o) ->
   Q (Value.ref (s.heap.objs.size + 1)) { heap := h', gens := s.gens, drawn := s.drawn, toks := s.toks, os := s.os }) : wpAny (model prog w) A (call (Value.type "enumerate") [Value.ref t]) Q E s := by
 refine callType_new F.called_enumerate (by decide) (F.typeCall_enumerate_1 (Value.ref t)) (F.newCall_enumerate_1 (Value.ref t)) (fun obj => F.args_object_init_2 obj (Value.ref t)) F.entry_enumerate_new (meets_enum_newT t items) ⟨hT, ?_⟩
 have hz := Heap.size_push s.heap { cls := Value.type "tuple_iterator", data := Data.fields #[Value.ref t, Value.int 0 0] }
 rw [hz]
 have he := Heap.get?_push_size (s.heap.push { cls := Value.type "tuple_iterator", data := Data.fields #[Value.ref t, Value.int 0 0] }) (o := { cls := Value.type "enumerate", data := Data.fields #[Value.none, Value.bool false, Value.ref s.heap.objs.size, rawInt 0, Value.none, Value.none] }) rfl
 rw [hz] at he
 refine ⟨⟨_, he, rfl⟩, h _ he ⟨_, Heap.get?_push_of_some _ (Heap.get?_push_size s.heap rfl), rfl, rfl⟩ (by rw [Heap.size_push, hz]) fun b o x => Heap.get?_push_of_some _ (Heap.get?_push_of_some _ x)⟩
def IteT (K : PySem.W.Frag) (a : Addr) : It :=
  { go := fun i H => ∃ xs x, SqT K H a xs /\ xs[i]? = some x,
    yld := fun i H v H' => ∃ T x, v = V.ref T /\ H T = none /\ H' = upd H T (.tup [V.int (i : Int), x]) /\ ∀ xs, SqT K H a xs -> xs[i]? = some x,
    stop := fun i H => ∃ xs, SqT K H a xs /\ xs.length = i }
theorem turn_enumT {P : Program} {w : World} {K : PySem.W.Frag} {elts : List Expr} {kk : Nat} {tpos : Pos} (a e it : Addr) :
  Turn P w K (Expr.Tuple elts kk tpos) (IteT K a) [e, it] e fun i h => (∃ old, IsEnum h e it (i : Int) old) /\ h.IsTupleIter it a i /\ e ≠ it where
 mem := core_List_mem_cons_self_al
 obj := fun i h st b hb => by
  obtain ⟨⟨old, he⟩, ⟨o, ho, hc, hd⟩, hne⟩ := st
  simp only [core_List_mem_cons_al, core_List_not_mem_nil_al, or_false] at hb
  rcases hb with rfl | rfl
  ·exact ⟨_, he, fun v q => nomatch q⟩
  ·exact ⟨o, ho, fun v q => by
    rw [hd] at q
    cases q⟩
 keep := fun i h h' st k => by
  obtain ⟨⟨old, he⟩, hi, hne⟩ := st
  exact ⟨⟨old, k e core_List_mem_cons_self_al _ he⟩, hi.at fun o q => k it (by simp) o q, hne⟩
 item := fun X hP hw hK hc i pins s σ H E I hf st hg => by
  subst hP hw hK
  obtain ⟨⟨old, he⟩, hit, hne⟩ := st
  obtain ⟨xs, x, hq, hx⟩ := hg
  obtain ⟨its, rv, p, hz⟩ := I.tuple hq
  obtain ⟨u, hu, ru⟩ := Vals.get rv hx
  have hT : s.heap.IsTuple a its.toArray := p
  have hel := Heap.lt_size he
  have hil : it < s.heap.objs.size := by
   obtain ⟨o, ho, _⟩ := hit
   exact Heap.lt_size ho
  have hea : e ≠ a := fun z => by
   obtain ⟨o, ho, hcl, _⟩ := hT
   rw [<- z] at ho
   have q : s.heap.get? e = _ := he
   rw [q] at ho
   cases ho
   exact absurd (Value.type.inj hcl) (by decide)
  have hai : a ≠ it := fun z => by
   obtain ⟨o, ho, hcl, _⟩ := hT
   obtain ⟨o', ho', hcl', _⟩ := hit
   rw [z] at ho
   rw [ho] at ho'
   cases ho'
   rw [hcl] at hcl'
   exact absurd (Value.type.inj hcl') (by decide)
  have hlt : i < its.toArray.size := by
   rcases core_List_getElem__eq_some_iff_al.mp hu with ⟨z, _⟩
   simpa using z
  refine wpAny_pyNext_enum_itemD (Draws.tuple (A := X.A.in1) (I.ok.hd hc) it a hai its.toArray) he ⟨hit, hT⟩ hlt hne (by simp [hne, hea]) fun x' h' tk hPx ho hSt hTn hsz hk => ?_
  have hx' : x' = u := by
   have z : its[i]? = some x' := by simpa using hPx
   rw [hu] at z
   exact (Option.some.inj z).symm
  subst hx'
  refine ⟨Value.ref s.heap.objs.size, rfl, wpAny_letOwnedTupleGo_enum ho fun h'' he' sb => ?_⟩
  have hT2 := (sb.2 s.heap.objs.size (Nat.ne_of_gt hel)).trans hTn
  have new : ObjOk X.prog X.w (upd H s.heap.objs.size (.tup [V.int (i : Int), x])) h'' s.heap.objs.size (.tup [V.int (i : Int), x]) :=
   ⟨by show 2 <= sizeLine; decide, [Value.int (i : Int) tk, x'], .cons ⟨tk, rfl⟩ (.cons ru .nil), _, hT2, rfl, 0, rfl⟩
  have I1 := Inv.turnedNew (t' := tk + 1) I (ch := [e, it]) (fun b ob hb q => (sb.2 b fun z => hb (by simp [z])).trans (hk b ob (fun z => hb (by simp [z])) (fun z => hb (by simp [z])) q)) hf (core_Nat_le_refl_al _) new
  refine ⟨.ref s.heap.objs.size, _, I1, rfl, ⟨s.heap.objs.size, x, rfl, I.hok.fresh (core_Nat_le_refl_al _), rfl, fun ys hy => ?_⟩, ⟨⟨x', ?_⟩, ?_, hne⟩, fun b hb => ?_⟩
  ·rw [I.tuple_inj hy hq]
   exact hx
  ·have e1 : ((i + 1 : Nat) : Int) = (i : Int) + 1 := by omega
   rw [e1]
   exact he'
  ·exact hSt.1.at fun o q => (sb.2 it hne.symm).trans q
  ·have hb' : b < s.heap.objs.size := by
    simp only [core_List_mem_cons_al, core_List_not_mem_nil_al, or_false] at hb
    rcases hb with rfl | rfl
    ·exact hel
    ·exact hil
   rw [upd_ne (Nat.ne_of_lt hb')]
   exact (hf b hb).1
 done := fun X hP hw hK hc i pins s σ H E I hf st hg => by
  subst hP hw hK
  obtain ⟨⟨old, he⟩, hit, hne⟩ := st
  obtain ⟨xs, hq, hx⟩ := hg
  obtain ⟨its, rv, p, hz⟩ := I.tuple hq
  have hT : s.heap.IsTuple a its.toArray := p
  have hai : a ≠ it := fun z => by
   obtain ⟨o, ho, hcl, _⟩ := hT
   obtain ⟨o', ho', hcl', _⟩ := hit
   rw [z] at ho
   rw [ho] at ho'
   cases ho'
   rw [hcl] at hcl'
   exact absurd (Value.type.inj hcl') (by decide)
  have hl := Vals.length rv
  have hit' : s.heap.IsTupleIter it a its.toArray.size := by
   have e : its.toArray.size = i := by
    rw [<- hx, hl]
    simp
   rw [e]
   exact hit
  obtain ⟨f0, f1, f2, f3, f4, f5⟩ := hf it (by simp)
  exact wpAny_pyNext_enum_endD (Draws.tuple (A := X.A.in1) (I.ok.hd hc) it a hai its.toArray) he ⟨hit', hT⟩ fun h' eb => ⟨rfl, Inv.turned I (fun b o hb q => eb b o hb q) f0 f1 f3 f4 f5⟩
 self := fun A i s Q E st h => by
  obtain ⟨⟨old, he⟩, _⟩ := st
  exact wpAny_pyIter_enum he h
theorem walk_enumT {K : PySem.W.Frag} {a : Addr} {xs : List V} : Walk (IteT K a) xs.length (fun H => SqT K H a xs) (YPair (fun i => some (.int (i : Nat))) (fun i => xs[i]?)) := by
 refine ⟨fun i H hi q => ⟨xs, xs[i], q, core_List_getElem__eq_getElem_al hi⟩, fun H q => ⟨xs, q, rfl⟩, fun i H v H' hi q y => ?_⟩
 obtain ⟨T, x, h1, h2, h3, h4⟩ := y
 exact ⟨T, _, x, h1, h2, h3, rfl, h4 xs q⟩
theorem cutS_le (z : Str) (lo hi : Option Int) : (cutS z lo hi).length <= z.length := by
 show (List.toArray _).size <= z.cps.size
 rw [List.size_toArray, List.length_take, List.length_drop, Array.length_toList]
 omega
end Cm
namespace Dl
open PySem PySem.Spec PyProof.Rows L2 Evl Cm
theorem optK_inj {a b : Option Int} (h : optK a = optK b) : a = b := by
 cases a <;> cases b <;> simp_all [optK]
theorem nod_is {P : Program} {w : World} {k : Option Int} {u : Value} (r : RelV (optV k) u) : (noneKind P w).is (optK k) u = true := by
 cases k with
 | none =>
  obtain rfl : u = Value.none := r
  rfl
 | some i =>
  obtain ⟨t, rfl⟩ : ∃ t, u = Value.int i t := r
  exact keyIs_int i t
theorem nod_pairs {P P' : Program} {w w' : World} : ∀ {es : List DictEntry} {vs : List (Option Key × Value)}, Pairs (noneKind P w) es vs -> Pairs (noneKind P' w') es vs
 | _, _, .nil => .nil
 | _, _, .cons h1 h2 t => .cons h1 h2 (nod_pairs t)
theorem nod_keys : ∀ {kvs : List (Option Int × Option Int)} {vs : List (Option Key × Value)}, KV (nodK kvs) vs -> ∀ q ∈ vs, ∃ k, q.1 = optK k
 | [], vs, r, q, hq => by
  cases (show KV [] vs from r)
  cases hq
 | p :: kvs, vs, r, q, hq => by
  cases (show Paired _ ((optK p.1, optV p.2) :: nodK kvs) vs from r) with
  | cons h t =>
   rcases core_List_mem_cons_al.mp hq with e | e
   ·rw [e]
    exact ⟨p.1, h.1.symm⟩
   ·exact nod_keys t q e
theorem nod_mem {P : Program} {w : World} : ∀ {es : List DictEntry} {vs : List (Option Key × Value)}, Pairs (noneKind P w) es vs -> ∀ e ∈ es, ∃ q ∈ vs, (noneKind P w).is q.1 e.key = true
 | _, _, .nil, e, he => by cases he
 | _, _, .cons h1 _ t, e, he => by
  rcases core_List_mem_cons_al.mp he with z | z
  ·rw [z]
   exact ⟨_, core_List_mem_cons_self_al, h1⟩
  ·obtain ⟨q, m, r⟩ := nod_mem t e z
   exact ⟨q, core_List_mem_cons_of_mem_al _ m, r⟩
theorem nod_to {P P' : Program} {w w' : World} {h : Heap} {a : Addr} {kvs : List (Option Int × Option Int)} {vs : List (Option Key × Value)} (r : KV (nodK kvs) vs) (d : h.DictOf (noneKind P w) a vs) : h.DictOf (noneKind P' w') a vs := by
 obtain ⟨o, es, ep, ho, hx, hdt, hk, hp, hn⟩ := d
 refine ⟨o, es, ep, ho, hx, hdt, fun e he => ?_, nod_pairs hp, hn⟩
 obtain ⟨k, h1, h2⟩ := hk e he
 obtain ⟨q, hq, h3⟩ := nod_mem hp e (by simpa using he)
 obtain ⟨j, hj⟩ := nod_keys r q hq
 rw [hj] at h3
 have : k = optK j := (noneKind P w).inj _ _ _ h1 h3
 subst this
 refine ⟨optK j, h1, ?_⟩
 cases j <;> exact h2
theorem nod_at {X : Cx} {pins : List (Addr × Obj)} {σ : L2.St} {H : Hp} {s : Shared} {a : Addr} {kvs : List (Option Int × Option Int)} (I : L2.Inv X pins σ H s) (e : H a = some (nodO a kvs)) :
  kvs.length <= sizeLine /\ (a == sysModules) = false /\ ∃ vs, KV (nodK kvs) vs /\ s.heap.DictOf (noneKind X.prog X.w) a vs := by
 obtain ⟨⟨h1, h2, P, w, vs, r, d⟩, _, _⟩ := I.hok a _ e
 exact ⟨h1, h2, vs, r, nod_to r d⟩
def lookN : List (Option Int × Option Int) -> Option Int -> Option (Option Int)
 | [], _ => none
 | p :: r, k => if p.1 = k then some p.2 else lookN r k
def putN (ks : List (Option Int × Option Int)) (k v : Option Int) : List (Option Int × Option Int) := if (ks.any fun p => decide (p.1 = k)) = true then ks.map (fun p => if p.1 = k then (p.1, v) else p) else ks ++ [(k, v)]
theorem valV_nod (k : Option Int) : ∀ ks : List (Option Int × Option Int), valV (nodK ks) (optK k) = (lookN ks k).map optV
 | [] => rfl
 | p :: r => by
  show valV ((optK p.1, optV p.2) :: nodK r) (optK k) = _
  unfold lookN
  by_cases e : p.1 = k
  ·rw [if_pos e, valV_pos (show ((optK p.1, optV p.2) : Option Key × V).1 = optK k by rw [e])]
   rfl
  ·rw [if_neg e, valV_neg (show ¬ ((optK p.1, optV p.2) : Option Key × V).1 = optK k from fun z => e (optK_inj z))]
   exact valV_nod k r
namespace Res
variable {α β : Type}
def bind (r : Res α) (f : α -> Store -> Res β) : Res β := match r with
 | .ok a S => f a S
 | .exc e S => .exc e S
 | .bad => .bad
@[simp] theorem bind_ok (a : α) (S : Store) (f : α -> Store -> Res β) : (Res.ok a S).bind f = f a S := rfl
@[simp] theorem bind_exc (e : AV) (S : Store) (f : α -> Store -> Res β) : (Res.exc e S : Res α).bind f = .exc e S := rfl
@[simp] theorem bind_bad (f : α -> Store -> Res β) : (Res.bad : Res α).bind f = .bad := rfl
theorem post_bind {r : Res α} {f : α -> Store -> Res β} {g : β -> Store -> Prop} {x : AV -> Store -> Prop} : (r.bind f).post g x ↔ r.post (fun a S => (f a S).post g x) x := by
 cases r <;> exact Iff.rfl
end Res
section
variable {c c' c1 c2 : Co} {H H' H1 H2 : Hp}
theorem Nxt.refl (c : Co) (H : Hp) : Nxt c H c H := ⟨rfl, rfl, ⟨fun _ h => h, fun _ h => .inl h⟩, ⟨[], by simp, fun _ h => absurd h core_List_not_mem_nil_al⟩, fun _ _ _ h => h, fun _ _ _ h => h, fun _ _ h => h, fun _ _ _ h => h, fun _ h => h⟩
end
theorem EnvR.clear {c : Co} {H : Hp} {ρ : Env} {σ : L2.St} {i : Nat} (h : EnvR c H ρ σ) : EnvR c H (ρ.set i none) (σ.set i none) := by
 refine ⟨by simp [h.1], fun j y e => ?_⟩
 by_cases q : j = i
 ·subst q
  by_cases hj : j < ρ.length
  ·rw [core_List_getElem__set_self_al hj] at e
   cases e
  ·rw [List.getElem?_eq_none (by simpa using hj)] at e
   cases e
 ·rw [core_List_getElem__set_ne_al (Ne.symm q)] at e
  obtain ⟨w, e2, r2⟩ := h.2 j y e
  exact ⟨w, by rw [core_List_getElem__set_ne_al (Ne.symm q)]; exact e2, r2⟩
abbrev DE := Env -> Store -> Res AV
abbrev DT := Env -> Store -> Res Bool
abbrev DA := Env -> Store -> Res (List AV)
def SE (W : WX) (K : PySem.W.Frag) (t : TE) (d : DE) : Prop := ∀ (ρ : Env) (S : Store) (c : Co) (σ : L2.St) (H : Hp) (Q : VK), c.K = K -> Cor c S H -> EnvR c H ρ σ ->
 (d ρ S).post (Good c H Q) (Fall c H (WE W σ)) -> t σ H Q
def ST (W : WX) (K : PySem.W.Frag) (t : TT) (d : DT) : Prop := ∀ (ρ : Env) (S : Store) (c : Co) (σ : L2.St) (H : Hp) (Q : Bool -> Hp -> Prop), c.K = K -> Cor c S H -> EnvR c H ρ σ ->
 (d ρ S).post (fun b S' => ∀ c' H', Nxt c H c' H' -> Cor c' S' H' -> Q b H') (Fall c H (WE W σ)) -> t σ H Q
def SA (W : WX) (K : PySem.W.Frag) (t : TA) (d : DA) : Prop := ∀ (ρ : Env) (S : Store) (c : Co) (σ : L2.St) (H : Hp) (Q : List V -> Hp -> Prop), c.K = K -> Cor c S H -> EnvR c H ρ σ ->
 (d ρ S).post (fun xs S' => ∀ c' H' vs, Nxt c H c' H' -> Cor c' S' H' -> Rels c' H' xs vs -> Q vs H') (Fall c H (WE W σ)) -> t σ H Q
def SO2 (K : PySem.W.Frag) (r : R2) (f : AV -> AV -> Store -> Option AV) : Prop := ∀ (x y z : AV) (S : Store) (c : Co) (u v : V) (H : Hp) (Q : VK), c.K = K -> Cor c S H -> Rel c H x u -> Rel c H y v ->
 f x y S = some z -> Good c H Q z S -> r u v H Q
def SCn (K : PySem.W.Frag) (r : List V -> Hp -> VK -> Prop) (f : List AV -> Store -> Option AV) : Prop := ∀ (xs : List AV) (z : AV) (S : Store) (c : Co) (us : List V) (H : Hp) (Q : VK), c.K = K -> Cor c S H -> Rels c H xs us ->
 f xs S = some z -> Good c H Q z S -> r us H Q
def ofO {α : Type} (o : Option α) (S : Store) : Res α := match o with
 | some a => .ok a S
 | none => .bad
@[simp] theorem ofO_some {α : Type} (a : α) (S : Store) : ofO (some a) S = .ok a S := rfl
@[simp] theorem ofO_none {α : Type} (S : Store) : ofO (none : Option α) S = .bad := rfl
theorem ofO_post {α : Type} {o : Option α} {S : Store} {g : α -> Store -> Prop} {x : AV -> Store -> Prop} (h : (ofO o S).post g x) : ∃ a, o = some a /\ g a S := by
 cases o with
 | none => exact False.elim h
 | some a => exact ⟨a, rfl, h⟩
section
variable {c c' : Co} {S : Store} {H H' : Hp} {x y : AV} {v u : V} {xs ys : List AV} {vs us : List V} {W : WX} {K : PySem.W.Frag} {Q : VK} {i : Nat} {a : Addr} {o : AO}
theorem Rels.at' : ∀ {xs : List AV} {vs : List V} {i : Nat} {v : V}, Rels c H xs vs -> vs[i]? = some v -> ∃ x, xs[i]? = some x /\ Rel c H x v
 | _, _, 0, _, .cons r _, e => by
  cases e
  exact ⟨_, rfl, r⟩
 | _, _, i + 1, x, .cons _ t, e => by
  obtain ⟨v, h1, h2⟩ := Rels.at' (i := i) (v := x) t (by simpa using e)
  exact ⟨v, by simpa using h1, h2⟩
theorem Rels.app : ∀ {xs ys : List AV} {vs us : List V}, Rels c H xs vs -> Rels c H ys us -> Rels c H (xs ++ ys) (vs ++ us)
 | _, _, _, _, .nil, s => s
 | _, _, _, _, .cons r t, s => .cons r (Rels.app t s)
theorem Rels.drop : ∀ {xs : List AV} {vs : List V} (n : Nat), Rels c H xs vs -> Rels c H (xs.drop n) (vs.drop n)
 | _, _, 0, h => h
 | _, _, _ + 1, .nil => .nil
 | _, _, n + 1, .cons _ t => Rels.drop n t
theorem Rels.take : ∀ {xs : List AV} {vs : List V} (n : Nat), Rels c H xs vs -> Rels c H (xs.take n) (vs.take n)
 | _, _, 0, _ => .nil
 | _, _, _ + 1, .nil => .nil
 | _, _, n + 1, .cons r t => .cons r (Rels.take n t)
theorem Rels.one (r : Rel c H x v) : Rels c H [x] [v] := .cons r .nil
theorem Rels.nil_iff (r : Rels c H xs vs) : xs = [] ↔ vs = [] := by
 cases r <;> simp
theorem Relf.look {f : Str} : ∀ {fs : List (Str × AV)} {gs : List (Str × V)} {x : AV}, Relf c H fs gs -> fs.lookup f = some x -> ∃ v, gs.lookup f = some v /\ Rel c H x v
 | _, _, _, .nil, e => nomatch e
 | _, _, x, .cons (f := g) r t, e => by
  rw [List.lookup_cons] at e ⊢
  cases q : (f == g) with
  | true =>
   rw [q] at e
   cases e
   exact ⟨_, rfl, r⟩
  | false =>
   rw [q] at e
   obtain ⟨v, h1, h2⟩ := Relf.look t e
   exact ⟨v, h1, h2⟩
theorem stD_eq {xs : List (AV × AV)} : stD S i = some xs ↔ S[i]? = some (.dic xs) := by
 unfold stD
 cases S[i]? with
 | none => simp
 | some o => cases o <;> simp
def stN (S : Store) (i : Nat) : Option (List (Option Int × Option Int)) := match S[i]? with
 | some (.nod xs) => some xs
 | _ => none
theorem stN_eq {xs : List (Option Int × Option Int)} : stN S i = some xs ↔ S[i]? = some (.nod xs) := by
 unfold stN
 cases S[i]? with
 | none => simp
 | some o => cases o <;> simp
mutual
theorem AV.same_eq : ∀ {x y : AV}, x.same y = true -> x = y
 | .non, y, h => by cases y <;> simp_all [AV.same]
 | .bl a, y, h => by cases y <;> simp_all [AV.same]
 | .int a, y, h => by cases y <;> simp_all [AV.same]
 | .str a, y, h => by cases y <;> simp_all [AV.same]
 | .ref a, y, h => by cases y <;> simp_all [AV.same]
 | .opq a, y, h => by cases y <;> simp_all [AV.same]
 | .key a, y, h => by cases y <;> simp_all [AV.same]
 | .tup p xs, y, h => by
  cases y <;> simp [AV.same] at h
  rw [h.1, sames_eq h.2]
 | .lst xs, y, h => by
  cases y <;> simp [AV.same] at h
  rw [sames_eq h]
 | .dic xs, y, h => by
  cases y <;> simp [AV.same] at h
  rw [samek_eq h]
 | .obj p xs, y, h => by
  cases y <;> simp [AV.same] at h
  rw [h.1, samef_eq h.2]
 | .exc p xs, y, h => by
  cases y <;> simp [AV.same] at h
  rw [h.1, samef_eq h.2]
theorem sames_eq : ∀ {x y : List AV}, sames x y = true -> x = y
 | [], [], _ => rfl
 | [], _ :: _, h => by simp [sames] at h
 | _ :: _, [], h => by simp [sames] at h
 | a :: x, b :: y, h => by
  simp [sames] at h
  rw [AV.same_eq h.1, sames_eq h.2]
theorem samek_eq : ∀ {x y : List (AV × AV)}, samek x y = true -> x = y
 | [], [], _ => rfl
 | [], _ :: _, h => by simp [samek] at h
 | _ :: _, [], h => by simp [samek] at h
 | (k, a) :: x, (l, b) :: y, h => by
  simp [samek] at h
  rw [AV.same_eq h.1, AV.same_eq h.2.1, samek_eq h.2.2]
theorem samef_eq : ∀ {x y : List (Str × AV)}, samef x y = true -> x = y
 | [], [], _ => rfl
 | [], _ :: _, h => by simp [samef] at h
 | _ :: _, [], h => by simp [samef] at h
 | (k, a) :: x, (l, b) :: y, h => by
  simp [samef] at h
  rw [h.1, AV.same_eq h.2.1, samef_eq h.2.2]
end
mutual
theorem AV.same_refl : ∀ x : AV, x.same x = true
 | .non | .bl _ | .int _ | .str _ | .ref _ | .opq _ | .key _ => by simp [AV.same]
 | .tup p xs => by simp [AV.same, sames_refl xs]
 | .lst xs => by simp [AV.same, sames_refl xs]
 | .dic xs => by simp [AV.same, samek_refl xs]
 | .obj _ xs => by simp [AV.same, samef_refl xs]
 | .exc _ xs => by simp [AV.same, samef_refl xs]
theorem sames_refl : ∀ x : List AV, sames x x = true
 | [] => by simp [sames]
 | a :: x => by simp [sames, AV.same_refl a, sames_refl x]
theorem samek_refl : ∀ x : List (AV × AV), samek x x = true
 | [] => by simp [samek]
 | (k, a) :: x => by simp [samek, AV.same_refl k, AV.same_refl a, samek_refl x]
theorem samef_refl : ∀ x : List (Str × AV), samef x x = true
 | [] => by simp [samef]
 | (k, a) :: x => by simp [samef, AV.same_refl a, samef_refl x]
end
def eqL (S : Store) (i : Nat) (xs : List AV) : Bool := match stL S i with
 | some ys => sames ys xs
 | none => false
theorem eqL_iff {xs : List AV} : eqL S i xs = true ↔ stL S i = some xs := by
 unfold eqL
 cases stL S i with
 | none => simp
 | some ys => exact ⟨fun h => congrArg some (sames_eq h), fun h => by cases h; exact sames_refl _⟩
def seqL (S : Store) : AV -> Option (List AV)
 | .lst xs => some xs
 | .ref i => stL S i
 | _ => none
def seqA (S : Store) : AV -> Option (List AV)
 | .tup _ xs => some xs
 | x => seqL S x
theorem seqL_at (k : Cor c S H) (r : Rel c H x v) (e : seqL S x = some xs) : ∃ a vs, v = .ref a /\ H a = some (.lst vs) /\ Rels c H xs vs := by
 cases x with
 | lst ys =>
  cases e
  cases r with
  | lst h _ rs => exact ⟨_, _, rfl, h, rs⟩
 | ref i =>
  have e : stL S i = some xs := e
  obtain ⟨a, rfl, _, vs, h, rs⟩ := k.obj r (stL_eq.mp e)
  exact ⟨a, vs, rfl, h, rs⟩
 | _ => cases e
theorem seqA_at {K : PySem.W.Frag} (hK : c.K = K) (k : Cor c S H) (r : Rel c H x v) (e : seqA S x = some xs) : ∃ a vs, v = .ref a /\ (SqL K H a vs ∨ SqT K H a vs) /\ Rels c H xs vs := by
 subst hK
 cases x with
 | tup p ys =>
  cases e
  cases r with
  | tup h _ rs => exact ⟨_, _, rfl, .inr h, rs⟩
 | _ =>
  obtain ⟨a, vs, h1, h2, h3⟩ := seqL_at k r e
  exact ⟨a, vs, h1, .inl (sq_of h2), h3⟩
def fsOf (S : Store) : AV -> Option (Str × List (Str × AV))
 | .obj n fs => some (n, fs)
 | .ref i => stO S i
 | _ => none
theorem Nxt.new {p : Addr} {o : HO} (hp : H p = none) : Nxt c H c (upd H p o) := by
 have up : ∀ a u, H a = some u -> upd H p o a = some u := fun a u h => by
  rw [upd_ne (ne_of_none h hp)]
  exact h
 refine ⟨rfl, rfl, ⟨fun _ h => h, fun _ h => .inl h⟩, ⟨[], by simp, fun _ h => absurd h core_List_not_mem_nil_al⟩, fun a u _ h => up a u h, fun a u _ h => up a u h, fun a xs h => up a _ h, fun a u w h => up a _ h, fun a h => ?_⟩
 by_cases z : a = p
 ·rw [z, upd_same]
  simp
 ·rw [upd_ne z]
  exact h
theorem Cor.notin (k : Cor c S H) {p : Addr} (hp : H p = none) : p ∉ c.tr := fun z => by
 obtain ⟨i, hi, e⟩ := List.getElem_of_mem z
 have h2 : c.tr[i]? = some p := by rw [core_List_getElem__eq_getElem_al hi, e]
 have hs : i < S.length := by
  rw [k.len]
  exact hi
 have h1 : S[i]? = some S[i] := core_List_getElem__eq_getElem_al hs
 have h3 := k.at_ i _ p h1 h2
 cases q : S[i] with
 | lst xs =>
  rw [q] at h3
  obtain ⟨vs, h, _⟩ := h3
  rw [hp] at h
  cases h
 | dic xs =>
  rw [q] at h3
  obtain ⟨vs, h, _⟩ := h3
  rw [hp] at h
  cases h
 | obj n xs =>
  rw [q] at h3
  obtain ⟨dx, vs, h, _⟩ := h3
  rw [hp] at h
  cases h
 | nod xs =>
  rw [q] at h3
  have h : H p = some (nodO p xs) := h3
  rw [hp] at h
  cases h
 | lkd xs =>
  rw [q] at h3
  obtain ⟨od, vs, h, _⟩ := h3
  rw [hp] at h
  cases h
 | tdc b xs =>
  rw [q] at h3
  obtain ⟨vs, h, _⟩ := h3
  cases b with
  | false =>
   have h : H p = some (.dT vs) := h
   rw [hp] at h
   cases h
  | true =>
   obtain ⟨od, h⟩ := h
   rw [hp] at h
   cases h
theorem RelO.isThere (r : RelO c H a o) : H a ≠ none := by
 cases o with
 | lst xs =>
  obtain ⟨vs, h1, h2⟩ := r
  rw [h1]
  simp
 | dic xs =>
  obtain ⟨vs, h1, h2⟩ := r
  rw [h1]
  simp
 | obj m xs =>
  obtain ⟨dx, vs, h1, h2⟩ := r
  rw [h1]
  simp
 | nod xs =>
  rw [show H a = some (nodO a xs) from r]
  simp
 | lkd xs =>
  obtain ⟨od, vs, h1, h2⟩ := r
  rw [h1]
  simp
 | tdc b xs =>
  obtain ⟨vs, h1, h2⟩ := r
  cases b with
  | false =>
   rw [show H a = some (.dT vs) from h1]
   simp
  | true =>
   obtain ⟨od, h1⟩ := h1
   rw [h1]
   simp
theorem Cor.new {p : Addr} {o : HO} (k : Cor c S H) (hp : H p = none) : Cor c S (upd H p o) :=
 ⟨k.len, k.nd, k.apart, fun a ha => by
  by_cases z : a = p
  ·rw [z, upd_same]
   simp
  ·rw [upd_ne z]
   exact k.hl a ha, fun i q a e1 e2 => (k.at_ i q a e1 e2).nxt (Nxt.new hp) (upd_ne fun z => (k.at_ i q a e1 e2).isThere (by rw [z]; exact hp))⟩
theorem Cor.out (k : Cor c S H) {p : Addr} (hp : H p = none) : c.Out p := ⟨k.notin hp, fun z => k.hl p z hp⟩
theorem new_lst {p : Addr} (k : Cor c S H) (hp : H p = none) (r : Rels c H xs vs) : Rel c (upd H p (.lst vs)) (.lst xs) (.ref p) :=
 .lst upd_same (k.out hp) (r.nxt (Nxt.new hp))
theorem new_tup {p : Addr} (hp : H p = none) (r : Rels c H xs vs) : Rel c (upd H p (.tup vs)) (.tup false xs) (.ref p) :=
 .tup (st_of upd_same) (fun z => Bool.noConfusion z) (r.nxt (Nxt.new hp))
theorem new_tupF {p : Addr} {o : Obj} (hp : H p = none) (h1 : o.cls = .type "tuple") (h2 : o.dict = none) (r : Rels c H xs vs) : Rel c (upd H p (.frz o (.tup vs))) (.tup true xs) (.ref p) :=
 .tup (.inl (.inr ⟨o, upd_same⟩)) (fun _ => .inl ⟨o, vs, upd_same, h1, h2⟩) (r.nxt (Nxt.new hp))
mutual
def AV.isD : AV -> Bool
 | .non | .bl _ | .int _ | .str _ => true
 | .tup _ xs | .lst xs => isDs xs
 | .dic _ | .obj _ _ | .exc _ _ | .ref _ | .opq _ | .key _ => false
def isDs : List AV -> Bool
 | [] => true
 | x :: xs => x.isD && isDs xs
end
mutual
def AV.py : AV -> PyData
 | .non => .none
 | .bl b => .bool b
 | .int i => .int i
 | .str x => .str x
 | .tup _ xs => .tuple (pys xs)
 | .lst xs => .list (pys xs)
 | .dic _ | .obj _ _ | .exc _ _ | .ref _ | .opq _ | .key _ => .none
def pys : List AV -> List PyData
 | [] => []
 | x :: xs => x.py :: pys xs
end
mutual
theorem Rel.dp : ∀ {x : AV} {v : V}, Rel c H x v -> x.isD = true -> Dp c.K H v x.py /\ x.py.canLay0 = true
 | _, _, .non, _ => ⟨by unfold AV.py; exact .non, by simp [AV.py, PyData.canLay0]⟩
 | _, _, .bl b, _ => ⟨by unfold AV.py; exact .bl b, by simp [AV.py, PyData.canLay0]⟩
 | _, _, .int i, _ => ⟨by unfold AV.py; exact .int i, by simp [AV.py, PyData.canLay0]⟩
 | _, _, .opq _, e => by simp [AV.isD] at e
 | _, _, .str h, _ => ⟨by unfold AV.py; exact .str _, by simp [AV.py, PyData.canLay0, h.ok]⟩
 | _, _, .tup h _ r, e => by
  obtain ⟨h1, h2⟩ := Rels.dp r (by simpa [AV.isD] using e)
  exact ⟨by unfold AV.py; exact .tup h h1, by simpa [AV.py, PyData.canLay0] using h2⟩
 | _, _, .lst h _ r, e => by
  obtain ⟨h1, h2⟩ := Rels.dp r (by simpa [AV.isD] using e)
  exact ⟨by unfold AV.py; exact .lst (sq_of h) h1, by simpa [AV.py, PyData.canLay0] using h2⟩
 | _, _, .dic _ _ _, e => by simp [AV.isD] at e
 | _, _, .obj _ _ _, e => by simp [AV.isD] at e
 | _, _, .exc _ _, e => by simp [AV.isD] at e
 | _, _, .ref _, e => by simp [AV.isD] at e
 | _, _, .key _, e => by simp [AV.isD] at e
theorem Rels.dp : ∀ {xs : List AV} {vs : List V}, Rels c H xs vs -> isDs xs = true -> DpAll c.K H vs (pys xs) /\ PyData.canLayAll0 (pys xs) = true
 | _, _, .nil, _ => ⟨by unfold pys; exact .nil, by simp [pys, PyData.canLayAll0]⟩
 | _, _, .cons r t, e => by
  have e' := core_Bool_and_eq_true_iff_al.mp (by simpa [isDs] using e)
  obtain ⟨h1, h2⟩ := Rel.dp r e'.1
  obtain ⟨h3, h4⟩ := Rels.dp t e'.2
  exact ⟨by unfold pys; exact .cons h1 h3, by simp [pys, PyData.canLayAll0, h2, h4]⟩
end
def datOf (S : Store) : AV -> Option PyData
 | .ref i => (stL S i).bind fun xs => if isDs xs then some (.list (pys xs)) else none
 | x => if x.isD then some x.py else none
theorem datOf_at {d : PyData} (k : Cor c S H) (r : Rel c H x v) (e : datOf S x = some d) : Dp c.K H v d /\ d.canLay0 = true := by
 have plain : ∀ {x : AV}, Rel c H x v -> (if x.isD = true then some x.py else none) = some d -> Dp c.K H v d /\ d.canLay0 = true := fun {x} r e => by
  split at e
  ·rename_i hd
   cases e
   exact r.dp hd
  ·cases e
 cases x with
 | ref i =>
  have e : ((stL S i).bind fun xs => if isDs xs then some (PyData.list (pys xs)) else none) = some d := e
  obtain ⟨xs, h1, h2⟩ := Option.bind_eq_some_iff.mp e
  split at h2
  ·rename_i hd
   cases h2
   obtain ⟨a, rfl, _, vs, h, rs⟩ := k.obj r (stL_eq.mp h1)
   obtain ⟨h1, h2⟩ := rs.dp hd
   exact ⟨.lst (sq_of h) h1, by simpa [PyData.canLay0] using h2⟩
  ·cases h2
 | _ => exact plain r (by exact e)
end
section
variable {W : WX} {K : PySem.W.Frag} {te ta tb tc : TE} {da db dc : DE} {tA : TA} {dA : DA} {tT tU : TT} {dT dU : DT}
def dVar (i : Nat) : DE := fun ρ S => match ρ[i]? with
 | some (some x) => .ok x S
 | _ => .bad
theorem se_var {i : Nat} : SE W K (tVar i) (dVar i) := by
 intro ρ S c σ H Q hK k e h
 unfold dVar at h
 cases q : ρ[i]? with
 | none =>
  rw [q] at h
  exact False.elim h
 | some o =>
  cases o with
  | none =>
   rw [q] at h
   exact False.elim h
  | some x =>
   rw [q] at h
   obtain ⟨v, h1, r⟩ := e.2 i x q
   exact ⟨v, h1, h c H v (Nxt.refl c H) k r⟩
def dC (x : AV) : DE := fun _ S => .ok x S
theorem se_c {v : V} {x : AV} (h : ∀ (c : Co) (H : Hp), c.K = K -> Rel c H x v) : SE W K (tC v) (dC x) := fun _ _ c _ H _ hK k _ g => g c H v (Nxt.refl c H) k (h c H hK)
theorem se_non : SE W K (tC .non) (dC .non) := se_c fun _ _ _ => .non
theorem se_bl {b : Bool} : SE W K (tC (.bl b)) (dC (.bl b)) := se_c fun _ _ _ => .bl b
theorem se_int {i : Int} : SE W K (tC (.int i)) (dC (.int i)) := se_c fun _ _ _ => .int i
def sokB (x : Str) : Bool := PyData.strOk x && decide (x.length <= 1048576)
theorem SOk.of {x : Str} (h : sokB x = true) : SOk x := ⟨(core_Bool_and_eq_true_iff_al.mp h).1, of_decide_eq_true (core_Bool_and_eq_true_iff_al.mp h).2⟩
theorem se_str {x : Str} (h : sokB x = true := by decide +kernel) : SE W K (tC (.str x)) (dC (.str x)) := se_c fun _ _ _ => .str (.of h)
def dOp (f : AV -> AV -> Store -> Option AV) (da db : DE) : DE := fun ρ S => (da ρ S).bind fun x S1 => (db ρ S1).bind fun y S2 => ofO (f x y S2) S2
theorem se_op {r : R2} {f : AV -> AV -> Store -> Option AV} (o : SO2 K r f) (ha : SE W K ta da) (hb : SE W K tb db) : SE W K (tOp r ta tb) (dOp f da db) := by
 intro ρ S c σ H Q hK k e h
 refine ha ρ S c σ H _ hK k e (Res.post_mono (Res.post_bind.mp h) (fun x S1 h1 => ?_) fun _ _ z => z)
 intro c1 H1 u n1 k1 r1
 refine hb ρ S1 c1 σ H1 _ (n1.K.trans hK) k1 (e.nxt n1) (Res.post_mono (Res.post_bind.mp h1) (fun y S2 h2 => ?_) fun _ _ z => z.nxt n1)
 intro c2 H2 v n2 k2 r2
 obtain ⟨z, hz, g⟩ := ofO_post h2
 exact o x y z S2 c2 u v H2 Q (n2.K.trans (n1.K.trans hK)) k2 (r1.nxt n2) r2 hz (g.nxt (n1.trans n2))
def dNil : DA := fun _ S => .ok [] S
def dCons (da : DE) (dr : DA) : DA := fun ρ S => (da ρ S).bind fun x S1 => (dr ρ S1).bind fun xs S2 => .ok (x :: xs) S2
theorem sa_nil : SA W K tNil dNil := fun _ _ c _ H _ _ k _ h => h c H [] (Nxt.refl c H) k .nil
theorem sa_cons {tr : TA} {dr : DA} (ha : SE W K ta da) (hr : SA W K tr dr) : SA W K (tCons ta tr) (dCons da dr) := by
 intro ρ S c σ H Q hK k e h
 refine ha ρ S c σ H _ hK k e (Res.post_mono (Res.post_bind.mp h) (fun x S1 h1 => ?_) fun _ _ z => z)
 intro c1 H1 u n1 k1 r1
 refine hr ρ S1 c1 σ H1 _ (n1.K.trans hK) k1 (e.nxt n1) (Res.post_mono (Res.post_bind.mp h1) (fun y S2 h2 => ?_) fun _ _ z => z.nxt n1)
 intro c2 H2 vs n2 k2 r2
 exact h2 c2 H2 _ (n1.trans n2) k2 (.cons (r1.nxt n2) r2)
def dCB (f : List AV -> Store -> Option AV) (dA : DA) : DE := fun ρ S => (dA ρ S).bind fun xs S1 => ofO (f xs S1) S1
theorem se_cb {r : List V -> Hp -> VK -> Prop} {f : List AV -> Store -> Option AV} (o : SCn K r f) (ha : SA W K tA dA) : SE W K (tCB r tA) (dCB f dA) := by
 intro ρ S c σ H Q hK k e h
 refine ha ρ S c σ H _ hK k e (Res.post_mono (Res.post_bind.mp h) (fun x S1 h1 => ?_) fun _ _ z => z)
 intro c1 H1 us n1 k1 r1
 obtain ⟨z, hz, g⟩ := ofO_post h1
 exact o x z S1 c1 us H1 Q (n1.K.trans hK) k1 r1 hz (g.nxt n1)
def lim : Nat := 1000000
def dTup (dA : DA) : DE := fun ρ S => (dA ρ S).bind fun xs S1 => if xs.length <= lim then .ok (.tup false xs) S1 else .bad
def dLst (dA : DA) : DE := fun ρ S => (dA ρ S).bind fun xs S1 => if xs.length <= lim then .ok (.lst xs) S1 else .bad
theorem lim_line {n : Nat} (h : n <= lim) : n <= sizeLine := by
 rw [sizeLine_eq]
 unfold lim at h
 omega
theorem se_tup (ha : SA W K tA dA) : SE W K (tTup tA) (dTup dA) := by
 intro ρ S c σ H Q hK k e h
 refine ha ρ S c σ H _ hK k e (Res.post_mono (Res.post_bind.mp h) (fun xs S1 h1 => ?_) fun _ _ z => z)
 intro c1 H1 vs n1 k1 r1
 split at h1
 ·rename_i hl
  refine ⟨by rw [<- r1.len]; exact lim_line hl, fun p hp => ?_⟩
  exact h1 c1 _ _ (n1.trans (Nxt.new hp)) (k1.new hp) (new_tup hp r1)
 ·exact False.elim h1
def tTupF (t : TA) : TE := fun σ H Q => t σ H fun xs H1 => xs.length <= sizeLine /\ ∀ p o, H1 p = none -> o.cls = .type "tuple" -> o.dict = none -> Q (.ref p) (upd H1 p (.frz o (.tup xs)))
theorem pe_tupF {X : Cx} {es : List Expr} {x1 : Nat} {pos : Pos} {t : TA} (h : PA X es t) : PE X (.Tuple es x1 pos) (tTupF t) :=
 ⟨fun pins s σ H Q I hq => wpAny_Tuple_spliced (thn (h.run pos pins s σ H _ I hq) fun us s1 ⟨xs, H1, J, r, z, q⟩ => ⟨by rw [<- r.length]; exact z,
  ⟨.ref s1.heap.objs.size, upd H1 s1.heap.objs.size (.frz { cls := .type "tuple", data := .seq us.toArray } (.tup xs)), J.laid (t' := s1.toks) (fun b u e => Heap.get?_push_of_some _ e) (core_Nat_le_refl_al _) ⟨Heap.get?_push_size _ rfl, z, us, r, ⟨_, Heap.get?_push_size _ rfl, rfl, _, rfl⟩⟩, rfl,
   q _ _ (J.hok.fresh (core_Nat_le_refl_al _)) rfl rfl⟩⟩)⟩
def dTupF (dA : DA) : DE := fun ρ S => (dA ρ S).bind fun xs S1 => if xs.length <= lim then .ok (.tup true xs) S1 else .bad
theorem se_tupF (ha : SA W K tA dA) : SE W K (tTupF tA) (dTupF dA) := by
 intro ρ S c σ H Q hK k e h
 refine ha ρ S c σ H _ hK k e (Res.post_mono (Res.post_bind.mp h) (fun xs S1 h1 => ?_) fun _ _ z => z)
 intro c1 H1 vs n1 k1 r1
 split at h1
 ·rename_i hl
  refine ⟨by rw [<- r1.len]; exact lim_line hl, fun p o hp e1 e2 => ?_⟩
  exact h1 c1 _ _ (n1.trans (Nxt.new hp)) (k1.new hp) (new_tupF hp e1 e2 r1)
 ·exact False.elim h1
theorem se_lst (ha : SA W K tA dA) : SE W K (tLst tA) (dLst dA) := by
 intro ρ S c σ H Q hK k e h
 refine ha ρ S c σ H _ hK k e (Res.post_mono (Res.post_bind.mp h) (fun xs S1 h1 => ?_) fun _ _ z => z)
 intro c1 H1 vs n1 k1 r1
 split at h1
 ·rename_i hl
  refine ⟨by rw [<- r1.len]; exact lim_line hl, fun p hp => ?_⟩
  exact h1 c1 _ _ (n1.trans (Nxt.new hp)) (k1.new hp) (new_lst k1 hp r1)
 ·exact False.elim h1
def asB : AV -> Option Bool
 | .bl b => some b
 | _ => none
theorem asB_at {c : Co} {H : Hp} {x : AV} {v : V} {b : Bool} (r : Rel c H x v) (e : asB x = some b) : v = .bl b := by
 cases x with
 | bl b' =>
  cases e
  cases r
  rfl
 | _ => cases e
def dTest (da : DE) : DT := fun ρ S => (da ρ S).bind fun x S1 => ofO (asB x) S1
theorem st_test (ha : SE W K ta da) : ST W K (tTest ta) (dTest da) := by
 intro ρ S c σ H Q hK k e h
 refine ha ρ S c σ H _ hK k e (Res.post_mono (Res.post_bind.mp h) (fun x S1 h1 => ?_) fun _ _ z => z)
 intro c1 H1 u n1 k1 r1
 obtain ⟨b, hb, g⟩ := ofO_post h1
 exact ⟨b, asB_at r1 hb, g c1 H1 n1 k1⟩
theorem st_B (ha : SE W K ta da) : ST W K (tB ta) (dTest da) := st_test ha
def truOf (S : Store) : AV -> Option Bool
 | .non => some false
 | .bl b => some b
 | .int i => some (i != 0)
 | .str x => some ((x.length : Int) != 0)
 | .tup _ xs | .lst xs => some (!xs.isEmpty)
 | .dic xs => some (!xs.isEmpty)
 | .ref i => match stL S i with
  | some xs => some (!xs.isEmpty)
  | none => (stD S i).map fun xs => !xs.isEmpty
 | _ => none
theorem Rels.emp {c : Co} {H : Hp} {xs : List AV} {vs : List V} (r : Rels c H xs vs) : xs.isEmpty = vs.isEmpty := by
 cases r <;> rfl
theorem Relk.emp {c : Co} {H : Hp} {xs : List (AV × AV)} {vs : List (Key × V)} (r : Relk c H xs vs) : xs.isEmpty = vs.isEmpty := by
 cases r <;> rfl
theorem truOf_at {c : Co} {S : Store} {H : Hp} {x : AV} {v : V} {b : Bool} (hK : c.K = K) (k : Cor c S H) (r : Rel c H x v) (e : truOf S x = some b) : TruV K v H b := by
 subst hK
 cases x with
 | non => cases e; cases r; rfl
 | bl b' => cases e; cases r; rfl
 | int i => cases e; cases r; rfl
 | str y =>
  cases e
  cases r with
  | str h => exact ⟨by have := h.len; rw [sizeLine_eq]; omega, rfl⟩
 | tup p xs =>
  cases e
  cases r with
  | tup h _ rs => exact .inr (.inl ⟨_, h, by rw [rs.emp]⟩)
 | lst xs =>
  cases e
  cases r with
  | lst h _ rs => exact .inl ⟨_, sq_of h, by rw [rs.emp]⟩
 | dic xs =>
  cases e
  cases r with
  | dic h _ rs => exact .inr (.inr ⟨_, h, by rw [rs.emp]⟩)
 | ref i =>
  have e' : (match stL S i with
   | some xs => some (!xs.isEmpty)
   | none => (stD S i).map fun xs => !xs.isEmpty) = some b := e
  cases q : stL S i with
  | some xs =>
   rw [q] at e'
   cases e'
   obtain ⟨a, rfl, _, vs, h, rs⟩ := k.obj r (stL_eq.mp q)
   exact .inl ⟨_, sq_of h, by rw [rs.emp]⟩
  | none =>
   rw [q] at e'
   obtain ⟨xs, h1, h2⟩ := core_Option_map_eq_some_iff_al.mp e'
   obtain ⟨a, rfl, _, vs, h, rs⟩ := k.obj r (stD_eq.mp h1)
   exact .inr (.inr ⟨_, h, by rw [<- h2, rs.emp]⟩)
 | _ => cases e
def dTru (da : DE) : DT := fun ρ S => (da ρ S).bind fun x S1 => ofO (truOf S1 x) S1
theorem st_truth (ha : SE W K ta da) : ST W K (fun σ H Q => ta σ H fun x H' => ∃ k, TruV K x H' k /\ Q k H') (dTru da) := by
 intro ρ S c σ H Q hK k e h
 refine ha ρ S c σ H _ hK k e (Res.post_mono (Res.post_bind.mp h) (fun x S1 h1 => ?_) fun _ _ z => z)
 intro c1 H1 u n1 k1 r1
 obtain ⟨b, hb, g⟩ := ofO_post h1
 exact ⟨b, truOf_at (n1.K.trans hK) k1 r1 hb, g c1 H1 n1 k1⟩
def dAnd (d e : DT) : DT := fun ρ S => (d ρ S).bind fun b S1 => if b = true then e ρ S1 else .ok false S1
def dOr (d e : DT) : DT := fun ρ S => (d ρ S).bind fun b S1 => if b = true then .ok true S1 else e ρ S1
def dNot (d : DT) : DT := fun ρ S => (d ρ S).bind fun b S1 => .ok (!b) S1
theorem st_and (ha : ST W K tT dT) (hb : ST W K tU dU) : ST W K (tAnd tT tU) (dAnd dT dU) := by
 intro ρ S c σ H Q hK k e h
 refine ha ρ S c σ H _ hK k e (Res.post_mono (Res.post_bind.mp h) (fun b S1 h1 => ?_) fun _ _ z => z)
 intro c1 H1 n1 k1
 cases b with
 | true => exact hb ρ S1 c1 σ H1 _ (n1.K.trans hK) k1 (e.nxt n1) (Res.post_mono h1 (fun b S2 h2 c2 H2 n2 k2 => h2 c2 H2 (n1.trans n2) k2) fun _ _ z => z.nxt n1)
 | false => exact h1 c1 H1 n1 k1
theorem st_or (ha : ST W K tT dT) (hb : ST W K tU dU) : ST W K (tOr tT tU) (dOr dT dU) := by
 intro ρ S c σ H Q hK k e h
 refine ha ρ S c σ H _ hK k e (Res.post_mono (Res.post_bind.mp h) (fun b S1 h1 => ?_) fun _ _ z => z)
 intro c1 H1 n1 k1
 cases b with
 | false => exact hb ρ S1 c1 σ H1 _ (n1.K.trans hK) k1 (e.nxt n1) (Res.post_mono h1 (fun b S2 h2 c2 H2 n2 k2 => h2 c2 H2 (n1.trans n2) k2) fun _ _ z => z.nxt n1)
 | true => exact h1 c1 H1 n1 k1
theorem st_not (ha : ST W K tT dT) : ST W K (tNot tT) (dNot dT) := by
 intro ρ S c σ H Q hK k e h
 exact ha ρ S c σ H _ hK k e (Res.post_mono (Res.post_bind.mp h) (fun b S1 h1 c1 H1 n1 k1 => h1 c1 H1 n1 k1) fun _ _ z => z)
def dAndV (da db : DE) : DE := fun ρ S => (da ρ S).bind fun x S1 => match asB x with
 | some true => db ρ S1
 | some false => .ok (.bl false) S1
 | none => .bad
def dNotV (da : DE) : DE := fun ρ S => (da ρ S).bind fun x S1 => ofO ((asB x).map fun b => .bl (!b)) S1
theorem se_andV (ha : SE W K ta da) (hb : SE W K tb db) : SE W K (tAndV ta tb) (dAndV da db) := by
 intro ρ S c σ H Q hK k e h
 refine ha ρ S c σ H _ hK k e (Res.post_mono (Res.post_bind.mp h) (fun x S1 h1 => ?_) fun _ _ z => z)
 intro c1 H1 u n1 k1 r1
 cases q : asB x with
 | none =>
  rw [q] at h1
  exact False.elim h1
 | some b =>
  rw [q] at h1
  refine ⟨b, asB_at r1 q, ?_⟩
  cases b with
  | true => exact hb ρ S1 c1 σ H1 _ (n1.K.trans hK) k1 (e.nxt n1) (Res.post_mono h1 (fun _ _ g => g.nxt n1) fun _ _ z => z.nxt n1)
  | false => exact h1 c1 H1 _ n1 k1 (.bl _)
theorem se_notV (ha : SE W K ta da) : SE W K (tNotV ta) (dNotV da) := by
 intro ρ S c σ H Q hK k e h
 refine ha ρ S c σ H _ hK k e (Res.post_mono (Res.post_bind.mp h) (fun x S1 h1 => ?_) fun _ _ z => z)
 intro c1 H1 u n1 k1 r1
 obtain ⟨z, hz, g⟩ := ofO_post h1
 obtain ⟨b, h2, rfl⟩ := core_Option_map_eq_some_iff_al.mp hz
 exact ⟨b, asB_at r1 h2, g c1 H1 _ n1 k1 (.bl _)⟩
def dIf (d : DT) (da db : DE) : DE := fun ρ S => (d ρ S).bind fun b S1 => if b = true then da ρ S1 else db ρ S1
theorem se_if (ht : ST W K tT dT) (ha : SE W K ta da) (hb : SE W K tb db) : SE W K (tIf tT ta tb) (dIf dT da db) := by
 intro ρ S c σ H Q hK k e h
 refine ht ρ S c σ H _ hK k e (Res.post_mono (Res.post_bind.mp h) (fun b S1 h1 => ?_) fun _ _ z => z)
 intro c1 H1 n1 k1
 cases b with
 | true => exact ha ρ S1 c1 σ H1 _ (n1.K.trans hK) k1 (e.nxt n1) (Res.post_mono h1 (fun _ _ g => g.nxt n1) fun _ _ z => z.nxt n1)
 | false => exact hb ρ S1 c1 σ H1 _ (n1.K.trans hK) k1 (e.nxt n1) (Res.post_mono h1 (fun _ _ g => g.nxt n1) fun _ _ z => z.nxt n1)
def dChain (f g : AV -> AV -> Store -> Option AV) (da db dc : DE) : DE := fun ρ S => (da ρ S).bind fun x S1 => (db ρ S1).bind fun y S2 => match (f x y S2).bind asB with
 | some true => (dc ρ S2).bind fun z S3 => ofO (g y z S3) S3
 | some false => .ok (.bl false) S2
 | none => .bad
theorem se_chain {r r' : R2} {f g : AV -> AV -> Store -> Option AV} (o : SO2 K r f) (o' : SO2 K r' g) (ha : SE W K ta da) (hb : SE W K tb db) (hc : SE W K tc dc) : SE W K (tChain r r' ta tb tc) (dChain f g da db dc) := by
 intro ρ S c σ H Q hK k e h
 refine ha ρ S c σ H _ hK k e (Res.post_mono (Res.post_bind.mp h) (fun x S1 h1 => ?_) fun _ _ z => z)
 intro c1 H1 u n1 k1 r1
 refine hb ρ S1 c1 σ H1 _ (n1.K.trans hK) k1 (e.nxt n1) (Res.post_mono (Res.post_bind.mp h1) (fun y S2 h2 => ?_) fun _ _ z => z.nxt n1)
 intro c2 H2 v n2 k2 r2
 have n12 := n1.trans n2
 have hK2 := n12.K.trans hK
 cases q : (f x y S2).bind asB with
 | none =>
  rw [q] at h2
  exact False.elim h2
 | some b =>
  rw [q] at h2
  obtain ⟨z, hz, hb'⟩ := Option.bind_eq_some_iff.mp q
  refine o x y z S2 c2 u v H2 _ hK2 k2 (r1.nxt n2) r2 hz fun c3 H3 w n3 k3 r3 => ⟨b, asB_at r3 hb', ?_⟩
  have n13 := n12.trans n3
  cases b with
  | false => exact h2 c3 H3 _ n13 k3 (.bl _)
  | true =>
   refine hc ρ S2 c3 σ H3 _ (n13.K.trans hK) k3 (e.nxt n13) (Res.post_mono (Res.post_bind.mp h2) (fun z S3 h3 => ?_) fun _ _ z => z.nxt n13)
   intro c4 H4 w4 n4 k4 r4
   obtain ⟨q, hq, g4⟩ := ofO_post h3
   exact o' y z q S3 c4 v w4 H4 Q ((n13.trans n4).K.trans hK) k4 (r2.nxt (n3.trans n4)) r4 hq (g4.nxt (n13.trans n4))
end
def rEqA (K : PySem.W.Frag) (neg : Bool) : R2 := fun x y H Q => ∃ d e, Dp K H x d /\ Dp K H y e /\ d.canLay0 = true /\ e.canLay0 = true /\ min d.depth e.depth <= 64 /\ Q (.bl (if neg then !PyData.eqv d e else PyData.eqv d e)) H
theorem op_eqA {X : Cx} (hu : X.A.units + 65 < cLine) : OpR X (compareOp .Eq) (rEqA X.K false) := by
 intro pins s σ H x y v u Q I rx ry h
 obtain ⟨d, e, hd, he, l1, l2, hm, q⟩ := h
 obtain ⟨as, r1⟩ := Dp.reads I d x v hd rx
 obtain ⟨bs, r2⟩ := Dp.reads I e y u he ry
 exact SeqAt.compareEq_reads r1 r2 l1 l2 (by omega) ⟨.bl _, H, I, rfl, q⟩
theorem op_neA {X : Cx} (hu : X.A.units + 65 < cLine) : OpR X (compareOp .NotEq) (rEqA X.K true) := by
 intro pins s σ H x y v u Q I rx ry h
 obtain ⟨d, e, hd, he, l1, l2, hm, q⟩ := h
 obtain ⟨as, r1⟩ := Dp.reads I d x v hd rx
 obtain ⟨bs, r2⟩ := Dp.reads I e y u he ry
 exact SeqAt.compareNe_reads r1 r2 l1 l2 (by omega) ⟨.bl _, H, I, rfl, q⟩
def rInS (K : PySem.W.Frag) (neg : Bool) : R2 := fun x y H Q => ∃ d ds, Dp K H x d /\ (Dp K H y (.list ds) ∨ Dp K H y (.tuple ds)) /\ d.canLay0 = true /\ PyData.canLayAll0 ds = true /\ min (PyData.depthAll ds) d.depth <= 64 /\ Q (.bl (if neg then !ds.any fun z => PyData.eqv z d else ds.any fun z => PyData.eqv z d)) H
theorem op_inQ {X : Cx} (hu : X.A.units + 65 < cLine) : OpR X (compareOp .In) (rInS X.K false) := by
 intro pins s σ H x y v u Q I rx ry h
 obtain ⟨d, ds, hd, he, l1, l2, hm, q⟩ := h
 obtain ⟨as, r1⟩ := Dp.reads I d x v hd rx
 rcases he with he | he
 ·obtain ⟨bs, r2⟩ := Dp.reads I (.list ds) y u he ry
  exact SeqAt.in_list_reads r2 r1 l2 l1 (by omega) ⟨.bl _, H, I, rfl, q⟩
 ·obtain ⟨bs, r2⟩ := Dp.reads I (.tuple ds) y u he ry
  exact SeqAt.in_tuple_reads r2 r1 l2 l1 (by omega) ⟨.bl _, H, I, rfl, q⟩
def rInC (neg : Bool) : R2 := fun x y H Q => ∃ (c : Nat) (z : Str), x = .str ⟨#[c]⟩ /\ y = .str z /\ Q (.bl (if neg then !decide (c ∈ z.cps.toList) else decide (c ∈ z.cps.toList))) H
def rInDc (neg : Bool) : R2 := fun x y H Q => ∃ a o, y = .ref a /\ DGet H a x o /\ Q (.bl (if neg then !o.isSome else o.isSome)) H
theorem op_inDc {X : Cx} (hu : X.A.units + 65 < cLine) : OpR X (compareOp .In) (rInDc false) := by
 intro pins s σ H x y v u Q I rx ry h
 obtain ⟨a, o, rfl, g, q⟩ := h
 obtain rfl : u = Value.ref a := ry
 exact d_in (by omega) I g rx fun s' I' => ⟨.bl _, H, I', rfl, q⟩
def rInA (K : PySem.W.Frag) (neg : Bool) : R2 := fun x y H Q => rInS K neg x y H Q ∨ rInC neg x y H Q ∨ rInDc neg x y H Q
theorem op_inA {X : Cx} (hu : X.A.units + 65 < cLine) : OpR X (compareOp .In) (rInA X.K false) := (op_inQ hu).or (OpR.or (op_in_sign (X := X)) (op_inDc hu))
def rAddS : R2 := fun x y H Q => ∃ i j, x = .str i /\ y = .str j /\ i.length + j.length <= sizeLine /\ Q (.str (i ++ j)) H
def rAddA (K : PySem.W.Frag) : R2 := fun x y H Q => rI0 (fun i j => .int (i + j)) x y H Q ∨ rAddS x y H Q ∨ rCatA K x y H Q ∨ rCat x y H Q
theorem op_addA {X : Cx} : OpR X (binaryOp .Add) (rAddA X.K) := OpR.or op_add (OpR.or op_add_str (OpR.or op_catA op_cat))
def rIxDc : R2 := fun x y H Q => ∃ a v, x = .ref a /\ DGet H a y (some v) /\ Q v H
theorem ix_dct {X : Cx} (hu : X.A.units + 65 < cLine) : IxR X rIxDc := by
 intro value slice pins s σ H x y v u Q I rx ry h hs
 obtain ⟨a, r, rfl, g, q⟩ := h
 obtain rfl : v = Value.ref a := rx
 exact tail_any (dict_typeIs I g) slot_dict_getitem.lookup (d_getItem (by omega) I g ry fun w' s3 I3 rw' => ⟨r, H, I3, rw', q⟩) hs
def rIxN : R2 := fun x y H Q => ∃ a kvs k v, x = .ref a /\ H a = some (nodO a kvs) /\ y = optV k /\ lookN kvs k = some v /\ Q (optV v) H
theorem ix_nod {X : Cx} : IxR X rIxN := by
 intro value slice pins s σ H x y v u Q I rx ry h hs
 obtain ⟨a, kvs, k, r, rfl, hd, rfl, g, q⟩ := h
 obtain rfl : v = Value.ref a := rx
 obtain ⟨_, _, vs, rel, dd⟩ := nod_at I hd
 obtain ⟨w', hw, rw'⟩ := RelO.some_of (v := optV r) (o := valueAt vs (optK k)) (by have := rel.val (optK k); rw [valV_nod, g] at this; exact this)
 exact tail_any dd.typeIs slot_dict_getitem.lookup (wpAny_getItem_of (nod_is ry) dd.mapOf hw ⟨optV r, H, I.tok _, rw', q⟩) hs
def rIxA (K : PySem.W.Frag) : R2 := fun x y H Q => rIx K x y H Q ∨ rIxDc x y H Q ∨ rIxN x y H Q
theorem ix_any {X : Cx} (hu : X.A.units + 65 < cLine) : IxR X (rIxA X.K) := IxR.or ix_seq (IxR.or (ix_dct hu) ix_nod)
def rSlAny (K : PySem.W.Frag) : V -> Option Int -> Option Int -> Hp -> VK -> Prop := fun x lo hi H Q => rSlL K x lo hi H Q ∨ rSlA K x lo hi H Q ∨ rSlS x lo hi H Q
theorem sl_any {X : Cx} : SlR X (rSlAny X.K) := SlR.or sl_list (SlR.or sl_tupA sl_str)
section
variable {W : WX} {K : PySem.W.Frag} {c : Co} {S : Store} {H : Hp} {x y z : AV} {u v : V} {xs ys : List AV} {us vs : List V}
theorem Rel.i {i : Int} (r : Rel c H (.int i) v) : v = .int i := by
 cases r
 rfl
def fI (g : Int -> Int -> AV) (C : Int -> Int -> Bool) : AV -> AV -> Store -> Option AV
 | .int i, .int j, _ => if C i j then some (g i j) else none
 | _, _, _ => none
def c0 : Int -> Int -> Bool := fun _ _ => true
theorem so_I {p : Int -> Int -> Prop} {C : Int -> Int -> Bool} {g : Int -> Int -> V} {h : Int -> Int -> AV} (hp : ∀ i j, C i j = true -> p i j) (hg : ∀ i j (c : Co) (H : Hp), Rel c H (h i j) (g i j)) : SO2 K (rI p g) (fI h C) := by
 intro x y z S c u v H Q hK k rx ry e q
 cases x with
 | int i =>
  cases y with
  | int j =>
   have e : (if C i j = true then some (h i j) else none) = some z := e
   split at e
   ·rename_i hc
    cases e
    exact ⟨i, j, rx.i, ry.i, hp i j hc, q c H _ (Nxt.refl c H) k (hg i j c H)⟩
   ·cases e
  | _ => cases e
 | _ => cases e
theorem so_I0 {g : Int -> Int -> V} {h : Int -> Int -> AV} (hg : ∀ i j (c : Co) (H : Hp), Rel c H (h i j) (g i j)) : SO2 K (rI0 g) (fI h c0) := by
 intro x y z S c u v H Q hK k rx ry e q
 cases x with
 | int i =>
  cases y with
  | int j =>
   cases (show some (h i j) = some z from e)
   exact ⟨i, j, rx.i, ry.i, q c H _ (Nxt.refl c H) k (hg i j c H)⟩
  | _ => cases e
 | _ => cases e
abbrev fSub := fI (fun i j => .int (i - j)) c0
abbrev fMod := fI (fun i j => .int (i % j)) (fun _ j => decide (0 < j))
abbrev fDiv := fI (fun i j => .int (i / j)) (fun _ j => decide (0 < j) && decide (j < 1073741824))
def mulB (i j : Int) : Bool := (decide (-(2 ^ 64) < i) && decide (i < 2 ^ 64)) || (decide (-(2 ^ 64) < j) && decide (j < 2 ^ 64))
abbrev fMul := fI (fun i j => .int (i * j)) mulB
abbrev fLe := fI (fun i j => .bl (decide (i <= j))) c0
abbrev fGt := fI (fun i j => .bl (decide (j < i))) c0
theorem so_sub : SO2 K (rI0 fun i j => .int (i - j)) fSub := so_I0 fun _ _ _ _ => .int _
theorem so_le : SO2 K (rI0 fun i j => .bl (decide (i <= j))) fLe := so_I0 fun _ _ _ _ => .bl _
theorem so_gt : SO2 K (rI0 fun i j => .bl (decide (j < i))) fGt := so_I0 fun _ _ _ _ => .bl _
theorem so_mod : SO2 K (rI (fun _ j => 0 < j) fun i j => .int (i % j)) fMod := so_I (fun _ _ h => of_decide_eq_true h) fun _ _ _ _ => .int _
theorem so_fdiv : SO2 K (rI CDiv fun i j => .int (i / j)) fDiv := so_I (fun _ _ h => ⟨of_decide_eq_true (core_Bool_and_eq_true_iff_al.mp h).1, of_decide_eq_true (core_Bool_and_eq_true_iff_al.mp h).2⟩) fun _ _ _ _ => .int _
theorem so_mul : SO2 K (rI CMul fun i j => .int (i * j)) fMul := so_I (fun _ _ h => (Bool.or_eq_true_iff.mp h).imp (fun h => ⟨of_decide_eq_true (core_Bool_and_eq_true_iff_al.mp h).1, of_decide_eq_true (core_Bool_and_eq_true_iff_al.mp h).2⟩) (fun h => ⟨of_decide_eq_true (core_Bool_and_eq_true_iff_al.mp h).1, of_decide_eq_true (core_Bool_and_eq_true_iff_al.mp h).2⟩)) fun _ _ _ _ => .int _
def strMax : Nat := 1048576
theorem SOk.app {x y : Str} (a : SOk x) (b : SOk y) (h : x.length + y.length <= strMax) : SOk (x ++ y) := by
 refine ⟨?_, by rw [strLen_append]; exact h⟩
 have h1 : x.cps.all (· < 0x110000) = true := a.ok
 have h2 : y.cps.all (· < 0x110000) = true := b.ok
 show (x.cps ++ y.cps).all (· < 0x110000) = true
 rw [Array.all_append, h1, h2]
 rfl
def fAdd (x y : AV) (S : Store) : Option AV := match x with
 | .int i => (match y with
  | .int j => some (.int (i + j))
  | _ => none)
 | .str i => (match y with
  | .str j => if i.length + j.length <= strMax then some (.str (i ++ j)) else none
  | _ => none)
 | .tup _ xs => (match y with
  | .tup _ ys => if xs.length + ys.length <= lim then some (.tup false (xs ++ ys)) else none
  | _ => none)
 | x => (seqL S x).bind fun xs => (seqL S y).bind fun ys => if xs.length + ys.length <= lim then some (.lst (xs ++ ys)) else none
theorem so_add : SO2 K (rAddA K) fAdd := by
 intro x y z S c u v H Q hK k rx ry e q
 have cat : ∀ {x : AV}, Rel c H x u -> ((seqL S x).bind fun xs => (seqL S y).bind fun ys => if xs.length + ys.length <= lim then some (AV.lst (xs ++ ys)) else none) = some z -> rAddA K u v H Q := fun {x} rx e => by
  obtain ⟨xs, h1, e⟩ := Option.bind_eq_some_iff.mp e
  obtain ⟨ys, h2, e⟩ := Option.bind_eq_some_iff.mp e
  split at e
  ·rename_i hl
   cases e
   obtain ⟨a, vs, rfl, h3, r3⟩ := seqL_at k rx h1
   obtain ⟨b, us, rfl, h4, r4⟩ := seqL_at k ry h2
   exact .inr (.inr (.inr ⟨a, b, vs, us, rfl, rfl, h3, h4, by rw [<- r3.len, <- r4.len]; exact lim_line hl, fun p hp => q c _ _ (Nxt.new hp) (k.new hp) (new_lst k hp (r3.app r4))⟩))
  ·cases e
 cases x with
 | int i =>
  cases y with
  | int j =>
   cases e
   exact .inl ⟨i, j, rx.i, ry.i, q c H _ (Nxt.refl c H) k (.int _)⟩
  | _ => cases e
 | str i =>
  cases y with
  | str j =>
   have e : (if i.length + j.length <= strMax then some (AV.str (i ++ j)) else none) = some z := e
   split at e
   ·rename_i hl
    cases e
    obtain ⟨e1, s1⟩ := rx.s
    obtain ⟨e2, s2⟩ := ry.s
    exact .inr (.inl ⟨i, j, e1, e2, by rw [sizeLine_eq]; unfold strMax at hl; omega, q c H _ (Nxt.refl c H) k (.str (s1.app s2 hl))⟩)
   ·cases e
  | _ => cases e
 | tup p xs =>
  cases y with
  | tup p' ys =>
   have e : (if xs.length + ys.length <= lim then some (AV.tup false (xs ++ ys)) else none) = some z := e
   split at e
   ·rename_i hl
    cases e
    cases rx with
    | tup h1 _ r1 =>
     cases ry with
     | tup h2 _ r2 =>
      subst hK
      refine .inr (.inr (.inl ⟨_, _, _, _, rfl, rfl, h1, h2, by rw [<- r1.len, <- r2.len]; exact lim_line hl, fun e0 => ?_, fun _ e1 => ?_, fun _ _ p hp => ?_⟩))
      ·refine q c H _ (Nxt.refl c H) k ?_
       rw [r1.nil_iff.mpr e0]
       exact .tup h2 (fun z => Bool.noConfusion z) r2
      ·refine q c H _ (Nxt.refl c H) k ?_
       rw [r2.nil_iff.mpr e1, core_List_append_nil_al]
       exact .tup h1 (fun z => Bool.noConfusion z) r1
      ·exact q c _ _ (Nxt.new hp) (k.new hp) (new_tup hp (r1.app r2))
   ·cases e
  | _ => cases e
 | _ => exact cat rx (by exact e)
def fEq (neg : Bool) (x y : AV) (S : Store) : Option AV := (datOf S x).bind fun d => (datOf S y).bind fun e => if min d.depth e.depth <= 64 then some (.bl (if neg then !PyData.eqv d e else PyData.eqv d e)) else none
theorem so_eq {neg : Bool} : SO2 K (rEqA K neg) (fEq neg) := by
 intro x y z S c u v H Q hK k rx ry e q
 subst hK
 obtain ⟨d, h1, e⟩ := Option.bind_eq_some_iff.mp e
 obtain ⟨d', h2, e⟩ := Option.bind_eq_some_iff.mp e
 split at e
 ·rename_i hm
  cases e
  obtain ⟨a1, l1⟩ := datOf_at k rx h1
  obtain ⟨a2, l2⟩ := datOf_at k ry h2
  exact ⟨d, d', a1, a2, l1, l2, hm, q c H _ (Nxt.refl c H) k (.bl _)⟩
 ·cases e
def keyEq : AV -> AV -> Bool
 | .int i, .int j => decide (i = j)
 | .str i, .str j => decide (i = j)
 | _, _ => false
def isKey : AV -> Bool
 | .int _ => true
 | .str _ => true
 | _ => false
def look : List (AV × AV) -> AV -> Option AV
 | [], _ => none
 | (k, x) :: r, q => if keyEq k q then some x else look r q
theorem key_rel {k : AV} (r : Rel c H k u) (h : isKey k = true) : ∃ q, u = kV q /\ ∀ k' q', Rel c H k' (kV q') -> keyEq k' k = decide (q' = q) := by
 cases k with
 | int i =>
  refine ⟨.inl i, r.i, fun k' q' r' => ?_⟩
  cases q' with
  | inl j =>
   cases k' with
   | int j' =>
    cases (r'.i : V.int j = V.int j')
    show decide (j = i) = decide ((Sum.inl j : Key) = Sum.inl i)
    by_cases h : j = i
    ·simp [h]
    ·simp [h]
   | _ => cases r'
  | inr j =>
   cases k' with
   | str j' =>
    show false = decide ((Sum.inr j : Key) = Sum.inl i)
    simp
   | _ => cases r'
 | str i =>
  refine ⟨.inr i, r.s.1, fun k' q' r' => ?_⟩
  cases q' with
  | inr j =>
   cases k' with
   | str j' =>
    cases (r'.s.1 : V.str j = V.str j')
    show decide (j = i) = decide ((Sum.inr j : Key) = Sum.inr i)
    by_cases h : j = i
    ·simp [h]
    ·simp [h]
   | _ => cases r'
  | inl j =>
   cases k' with
   | int j' =>
    show false = decide ((Sum.inl j : Key) = Sum.inr i)
    simp
   | _ => cases r'
 | _ => cases h
theorem Relk.look {k : AV} {q : Key} (hk : ∀ k' q', Rel c H k' (kV q') -> keyEq k' k = decide (q' = q)) : ∀ {xs : List (AV × AV)} {vs : List (Key × V)}, Relk c H xs vs ->
  match look xs k, valV vs q with
  | some x, some v => Rel c H x v
  | none, none => True
  | _, _ => False
 | _, _, .nil => trivial
 | (k', x) :: xs, (q', v) :: vs, .cons r1 r2 t => by
  unfold Dl.look
  rw [hk k' q' r1]
  by_cases h : q' = q
  ·rw [valV_pos (p := (q', v)) h, core_decide_eq_true_al h]
   simp only [if_true]
   exact r2
  ·rw [valV_neg (p := (q', v)) h, core_decide_eq_false_al h]
   simp only [Bool.false_eq_true, if_false]
   exact Relk.look hk t
def dicOf (S : Store) : AV -> Option (List (AV × AV))
 | .dic xs => some xs
 | .ref i => stD S i
 | _ => none
theorem dicOf_at {ks : List (AV × AV)} (k : Cor c S H) (r : Rel c H x v) (e : dicOf S x = some ks) : ∃ a kws, v = .ref a /\ H a = some (.dK kws) /\ Relk c H ks kws := by
 cases x with
 | dic ys =>
  cases e
  cases r with
  | dic h _ rs => exact ⟨_, _, rfl, h, rs⟩
 | ref i =>
  have e : stD S i = some ks := e
  obtain ⟨a, rfl, _, vs, h, rs⟩ := k.obj r (stD_eq.mp e)
  exact ⟨a, vs, rfl, h, rs⟩
 | _ => cases e
theorem dget_at {ks : List (AV × AV)} (k : Cor c S H) (r : Rel c H x v) (e : dicOf S x = some ks) (ry : Rel c H y u) (hy : isKey y = true) : ∃ a o, v = .ref a /\ DGet H a u o /\
  (match look ks y, o with
  | some x, some v => Rel c H x v
  | none, none => True
  | _, _ => False) := by
 obtain ⟨a, kws, rfl, h, rs⟩ := dicOf_at k r e
 obtain ⟨q, rfl, hq⟩ := key_rel ry hy
 exact ⟨a, _, rfl, DGet.k h, rs.look hq⟩
def memV (x : AV) (ys : List AV) : Bool := ys.any fun y => PyData.eqv y.py x.py
theorem pys_map (xs : List AV) : pys xs = xs.map AV.py := by
 induction xs with
 | nil => rfl
 | cons x r ih =>
  unfold pys
  rw [ih]
  rfl
theorem memV_any (x : AV) (ys : List AV) : ((pys ys).any fun z => PyData.eqv z x.py) = memV x ys := by
 rw [pys_map, List.any_map]
 rfl
def fInS (neg : Bool) (x y : AV) (S : Store) : Option AV := (seqA S y).bind fun ys => if x.isD && isDs ys && decide (min (PyData.depthAll (pys ys)) x.py.depth <= 64) then some (.bl (if neg then !memV x ys else memV x ys)) else none
def fIn (neg : Bool) (x y : AV) (S : Store) : Option AV := match y with
 | .str z => (match x with
  | .str w => (match w.cps.toList with
   | [c] => some (.bl (if neg then !decide (c ∈ z.cps.toList) else decide (c ∈ z.cps.toList)))
   | _ => none)
  | _ => none)
 | y => match dicOf S y with
  | some ks => if isKey x then some (.bl (if neg then !(look ks x).isSome else (look ks x).isSome)) else none
  | none => fInS neg x y S
theorem str_one {w : Str} {n : Nat} (h : w.cps.toList = [n]) : w = ⟨#[n]⟩ := by
 obtain ⟨a⟩ := w
 have : a = #[n] := by
  apply Array.ext'
  exact h
 rw [this]
theorem so_in {neg : Bool} : SO2 K (rInA K neg) (fIn neg) := by
 intro x y z S c u v H Q hK k rx ry e q
 have other : ∀ {y : AV}, Rel c H y v -> (match dicOf S y with
  | some ks => if isKey x then some (.bl (if neg then !(look ks x).isSome else (look ks x).isSome)) else none
  | none => fInS neg x y S) = some z -> rInA K neg u v H Q := fun {y} ry e => by
  cases hd : dicOf S y with
  | some ks =>
   rw [hd] at e
   simp only at e
   split at e
   ·rename_i hk
    cases e
    obtain ⟨a, o, rfl, g, m⟩ := dget_at k ry hd rx hk
    refine .inr (.inr ⟨a, o, rfl, g, ?_⟩)
    have : o.isSome = (look ks x).isSome := by
     cases h1 : look ks x <;> cases o <;> rw [h1] at m <;> first | rfl | exact False.elim m
    rw [this]
    exact q c H _ (Nxt.refl c H) k (.bl _)
   ·cases e
  | none =>
   rw [hd] at e
   obtain ⟨ys, h1, e⟩ := Option.bind_eq_some_iff.mp e
   split at e
   ·rename_i hc
    cases e
    obtain ⟨hc, h3⟩ := core_Bool_and_eq_true_iff_al.mp hc
    obtain ⟨h4, h5⟩ := core_Bool_and_eq_true_iff_al.mp hc
    obtain ⟨a, vs, rfl, hs, rs⟩ := seqA_at hK k ry h1
    subst hK
    obtain ⟨a1, l1⟩ := rx.dp h4
    obtain ⟨a2, l2⟩ := rs.dp h5
    refine .inl ⟨_, _, a1, hs.imp (fun h => .lst h a2) (fun h => .tup h a2), l1, l2, of_decide_eq_true h3, ?_⟩
    rw [memV_any]
    exact q c H _ (Nxt.refl c H) k (.bl _)
   ·cases e
 cases y with
 | str z' =>
  cases x with
  | str w =>
   have e : (match w.cps.toList with
    | [c] => some (AV.bl (if neg then !decide (c ∈ z'.cps.toList) else decide (c ∈ z'.cps.toList)))
    | _ => none) = some z := e
   cases hw : w.cps.toList with
   | nil =>
    rw [hw] at e
    cases e
   | cons n r =>
    rw [hw] at e
    cases r with
    | nil =>
     cases e
     obtain ⟨e1, s1⟩ := rx.s
     obtain ⟨e2, s2⟩ := ry.s
     rw [str_one hw] at e1
     exact .inr (.inl ⟨n, z', e1, e2, q c H _ (Nxt.refl c H) k (.bl _)⟩)
    | cons m r => cases e
  | _ => cases e
 | _ => exact other ry (by exact e)
def fIsN (neg : Bool) (x y : AV) (_ : Store) : Option AV := match y with
 | .non => some (.bl (match x with
  | .non => !neg
  | _ => neg))
 | _ => none
theorem non_iff (r : Rel c H x v) : decide (v = .non) = (match x with
  | .non => true
  | _ => false) := by
 cases r <;> simp
theorem so_isN : SO2 K (fun x y H Q => y = .non /\ Q (.bl (decide (x = .non))) H) (fIsN false) := by
 intro x y z S c u v H Q hK k rx ry e q
 cases y with
 | non =>
  cases ry
  refine ⟨rfl, ?_⟩
  rw [non_iff rx]
  cases e
  refine q c H _ (Nxt.refl c H) k ?_
  cases x <;> exact .bl _
 | _ => cases e
theorem SOk.sign {z : Str} {n : Nat} (h : SOk z) (hn : n ∈ z.cps.toList) : SOk ⟨#[n]⟩ := by
 refine ⟨?_, by show 1 <= 1048576; omega⟩
 have h1 : z.cps.all (· < 0x110000) = true := h.ok
 have h2 : n < 0x110000 := by
  have := Array.all_eq_true'.mp h1 n (by simpa using hn)
  simpa using this
 show (#[n] : Array Nat).all (· < 0x110000) = true
 simp [h2]
theorem atI_mem {α : Type} {xs : List α} {i : Int} {x : α} (h : atI xs i = some x) : x ∈ xs := by
 unfold atI at h
 obtain ⟨j, _, h2⟩ := Option.bind_eq_some_iff.mp h
 exact core_List_mem_of_getElem__al h2
def optA : Option Int -> AV
 | none => .non
 | some i => .int i
def optI : AV -> Option (Option Int)
 | .non => some none
 | .int i => some (some i)
 | _ => none
theorem optI_at {k : Option Int} (r : Rel c H y u) (e : optI y = some k) : u = optV k := by
 cases y with
 | non =>
  cases e
  cases r
  rfl
 | int i =>
  cases e
  cases r
  rfl
 | _ => cases e
theorem optA_rel (k : Option Int) : Rel c H (optA k) (optV k) := by
 cases k with
 | none => exact .non
 | some i => exact .int i
def nodOf (S : Store) : AV -> Option (List (Option Int × Option Int))
 | .ref i => stN S i
 | _ => none
theorem nodOf_at {ks : List (Option Int × Option Int)} (k : Cor c S H) (r : Rel c H x v) (e : nodOf S x = some ks) : ∃ a, v = .ref a /\ H a = some (nodO a ks) := by
 cases x with
 | ref i =>
  obtain ⟨a, rfl, _, h⟩ := k.obj r (stN_eq.mp (show stN S i = some ks from e))
  exact ⟨a, rfl, h⟩
 | _ => cases e
def fIxS (x y : AV) (S : Store) : Option AV := match y with
 | .int i => (seqA S x).bind fun xs => atI xs i
 | _ => none
def fIx (x y : AV) (S : Store) : Option AV := match x with
 | .str z => (match y with
  | .int i => (atI z.cps.toList i).map fun n => .str ⟨#[n]⟩
  | _ => none)
 | x => match dicOf S x with
  | some ks => if isKey y then look ks y else none
  | none => match nodOf S x, optI y with
   | some ks, some k => (lookN ks k).map optA
   | some _, none => none
   | none, _ => fIxS x y S
theorem so_ix : SO2 K (rIxA K) fIx := by
 intro x y z S c u v H Q hK k rx ry e q
 have other : ∀ {x : AV}, Rel c H x u -> (match dicOf S x with
  | some ks => if isKey y then look ks y else none
  | none => match nodOf S x, optI y with
   | some ks, some k => (lookN ks k).map optA
   | some _, none => none
   | none, _ => fIxS x y S) = some z -> rIxA K u v H Q := fun {x} rx e => by
  cases hd : dicOf S x with
  | some ks =>
   rw [hd] at e
   simp only at e
   split at e
   ·rename_i hk
    obtain ⟨a, o, rfl, g, m⟩ := dget_at k rx hd ry hk
    rw [e] at m
    cases o with
    | none => exact False.elim m
    | some w => exact .inr (.inl ⟨a, w, rfl, g, q c H w (Nxt.refl c H) k m⟩)
   ·cases e
  | none =>
   rw [hd] at e
   simp only at e
   split at e
   ·rename_i ks j hn ho
    obtain ⟨a, rfl, h1⟩ := nodOf_at k rx hn
    obtain ⟨w, hw, hz⟩ := core_Option_map_eq_some_iff_al.mp e
    subst hz
    exact .inr (.inr ⟨a, ks, j, w, rfl, h1, optI_at ry ho, hw, q c H _ (Nxt.refl c H) k (optA_rel w)⟩)
   ·cases e
   cases y with
   | int i =>
    have e : ((seqA S x).bind fun xs => atI xs i) = some z := e
    obtain ⟨xs, h1, e⟩ := Option.bind_eq_some_iff.mp e
    obtain ⟨a, vs, rfl, hs, rs⟩ := seqA_at hK k rx h1
    obtain ⟨w, hw, rw'⟩ := rs.atI e
    refine .inl (hs.elim (fun h => .inl ⟨a, vs, i, w, rfl, ry.i, h, hw, q c H w (Nxt.refl c H) k rw'⟩) fun h => .inr (.inl ⟨a, vs, i, w, rfl, ry.i, h, hw, q c H w (Nxt.refl c H) k rw'⟩))
   | _ => cases e
 cases x with
 | str z' =>
  cases y with
  | int i =>
   have e : ((atI z'.cps.toList i).map fun n => AV.str ⟨#[n]⟩) = some z := e
   obtain ⟨n, h1, h2⟩ := core_Option_map_eq_some_iff_al.mp e
   obtain ⟨e1, s1⟩ := rx.s
   subst h2
   exact .inl (.inr (.inr ⟨z', i, n, e1, ry.i, by have := s1.len; rw [sizeLine_eq]; omega, h1, q c H _ (Nxt.refl c H) k (.str (s1.sign (atI_mem h1)))⟩))
  | _ => cases e
 | _ => exact other rx (by exact e)
end
section
variable {W : WX} {K : PySem.W.Frag} {c : Co} {S : Store} {H : Hp} {x y z : AV} {u v : V} {xs ys : List AV} {us vs : List V} {te ta : TE} {da : DE} {tl th : TO}
abbrev DO := Env -> Store -> Res (Option Int)
def SOp (W : WX) (K : PySem.W.Frag) (t : TO) (d : DO) : Prop := ∀ (ρ : Env) (S : Store) (c : Co) (σ : L2.St) (H : Hp) (Q : Option Int -> Hp -> Prop), c.K = K -> Cor c S H -> EnvR c H ρ σ ->
 (d ρ S).post (fun b S' => ∀ c' H', Nxt c H c' H' -> Cor c' S' H' -> Q b H') (Fall c H (WE W σ)) -> t σ H Q
def dNo : DO := fun _ S => .ok none S
def asI : AV -> Option (Option Int)
 | .int i => some (some i)
 | _ => none
def dSo (da : DE) : DO := fun ρ S => (da ρ S).bind fun x S1 => ofO (asI x) S1
theorem sp_none : SOp W K tNoPart dNo := fun _ _ c _ H _ _ k _ h => h c H (Nxt.refl c H) k
theorem sp_some (ha : SE W K ta da) : SOp W K (tPart ta) (dSo da) := by
 intro ρ S c σ H Q hK k e h
 refine ha ρ S c σ H _ hK k e (Res.post_mono (Res.post_bind.mp h) (fun x S1 h1 => ?_) fun _ _ z => z)
 intro c1 H1 u n1 k1 r1
 obtain ⟨o, ho, g⟩ := ofO_post h1
 cases x with
 | int i =>
  cases ho
  exact ⟨i, r1.i, g c1 H1 n1 k1⟩
 | _ => cases ho
def cutA (xs : List AV) (lo hi : Option Int) : List AV := (xs.drop (HT.sIx xs.length 0 lo)).take (HT.sIx xs.length xs.length hi - HT.sIx xs.length 0 lo)
theorem Rels.cut (r : Rels c H xs vs) (lo hi : Option Int) : Rels c H (cutA xs lo hi) (cutV vs lo hi) := by
 unfold cutA cutV
 rw [r.len]
 exact (r.drop _).take _
def fSl (x : AV) (lo hi : Option Int) (S : Store) : Option AV := match x with
 | .str z => some (.str (cutS z lo hi))
 | .tup _ xs => some (.tup false (cutA xs lo hi))
 | x => (seqL S x).map fun xs => .lst (cutA xs lo hi)
theorem SOk.cut {z : Str} (h : SOk z) (lo hi : Option Int) : SOk (cutS z lo hi) := by
 refine ⟨?_, core_Nat_le_trans_al (cutS_le z lo hi) h.len⟩
 have h1 : z.cps.all (· < 0x110000) = true := h.ok
 show (List.toArray _).all (· < 0x110000) = true
 rw [Array.all_eq_true'] at h1 ⊢
 intro n hn
 refine h1 n ?_
 rw [List.mem_toArray] at hn
 have := List.mem_of_mem_drop (List.mem_of_mem_take hn)
 simpa using this
def dSl (da : DE) (dl dh : DO) : DE := fun ρ S => (da ρ S).bind fun x S1 => (dl ρ S1).bind fun l S2 => (dh ρ S2).bind fun h S3 => ofO (fSl x l h S3) S3
theorem se_sl {dl dh : DO} (ha : SE W K ta da) (hl : SOp W K tl dl) (hh : SOp W K th dh) : SE W K (tSl (rSlAny K) ta tl th) (dSl da dl dh) := by
 intro ρ S c σ H Q hK k e h
 refine ha ρ S c σ H _ hK k e (Res.post_mono (Res.post_bind.mp h) (fun x S1 h1 => ?_) fun _ _ z => z)
 intro c1 H1 u n1 k1 r1
 refine hl ρ S1 c1 σ H1 _ (n1.K.trans hK) k1 (e.nxt n1) (Res.post_mono (Res.post_bind.mp h1) (fun l S2 h2 => ?_) fun _ _ z => z.nxt n1)
 intro c2 H2 n2 k2
 have n12 := n1.trans n2
 refine hh ρ S2 c2 σ H2 _ (n12.K.trans hK) k2 (e.nxt n12) (Res.post_mono (Res.post_bind.mp h2) (fun hi S3 h3 => ?_) fun _ _ z => z.nxt n12)
 intro c3 H3 n3 k3
 have n13 := n12.trans n3
 have r3 := r1.nxt (n2.trans n3)
 have hK3 := n13.K.trans hK
 obtain ⟨z, hz, g⟩ := ofO_post h3
 have g : Good c3 H3 Q z S3 := Good.nxt g n13
 have lst : ∀ {x : AV}, Rel c3 H3 x u -> ((seqL S3 x).map fun xs => AV.lst (cutA xs l hi)) = some z -> rSlAny K u l hi H3 Q := fun {x} r3 e => by
  obtain ⟨xs, h1, h2⟩ := core_Option_map_eq_some_iff_al.mp e
  subst h2
  obtain ⟨a, vs, rfl, h3, rs⟩ := seqL_at k3 r3 h1
  exact .inl ⟨a, vs, rfl, sq_of h3, fun p hp => g c3 _ _ (Nxt.new hp) (k3.new hp) (new_lst k3 hp (rs.cut l hi))⟩
 cases x with
 | str z' =>
  cases hz
  obtain ⟨e1, s1⟩ := r3.s
  exact .inr (.inr ⟨z', e1, by have := s1.len; rw [sizeLine_eq]; omega, g c3 H3 _ (Nxt.refl c3 H3) k3 (.str (s1.cut l hi))⟩)
 | tup p' xs =>
  cases hz
  cases r3 with
  | tup h _ rs =>
   rw [hK3] at h
   refine .inr (.inl ⟨_, _, rfl, h, fun w => ?_, fun _ p hp => g c3 _ _ (Nxt.new hp) (k3.new hp) (new_tup hp (rs.cut l hi))⟩)
   refine g c3 H3 _ (Nxt.refl c3 H3) k3 ?_
   have e : cutA xs l hi = xs := by
    unfold cutA
    rw [rs.len, w.1, w.2, List.drop_zero, Nat.sub_zero, <- rs.len, List.take_length]
   rw [e]
   exact .tup (by rw [hK3]; exact h) (fun z => Bool.noConfusion z) rs
 | _ => exact lst r3 (by exact hz)
def fLen (xs : List AV) (S : Store) : Option AV := match xs with
 | [.str z] => some (.int z.length)
 | [x] => match dicOf S x with
  | some ks => some (.int ks.length)
  | none => (seqA S x).map fun ys => .int ys.length
 | _ => none
def rLenA (K : PySem.W.Frag) : List V -> Hp -> VK -> Prop := fun xs H Q => (∃ x n, xs = [x] /\ LenV K x H n /\ Q (.int n) H) ∨ ∃ a kvs, xs = [V.ref a] /\ H a = some (.dK kvs) /\ Q (.int kvs.length) H
theorem call_lenA {X : Cx} : CallR X (.builtin "len") (rLenA X.K) := CallR.or call_len call_lenD
theorem sc_len : SCn K (rLenA K) fLen := by
 intro xs z S c us H Q hK k rs e q
 cases rs with
 | nil => cases e
 | @cons x u xs us r rs =>
  cases rs with
  | cons _ _ => cases x <;> cases e
  | nil =>
   have other : ∀ {x : AV}, Rel c H x u -> (match dicOf S x with
    | some ks => some (AV.int ks.length)
    | none => (seqA S x).map fun ys => .int ys.length) = some z -> rLenA K [u] H Q := fun {x} r e => by
    cases hd : dicOf S x with
    | some ks =>
     rw [hd] at e
     cases e
     obtain ⟨a, kws, rfl, h, rk⟩ := dicOf_at k r hd
     refine .inr ⟨a, kws, rfl, h, ?_⟩
     rw [<- rk.len]
     exact q c H _ (Nxt.refl c H) k (.int _)
    | none =>
     rw [hd] at e
     obtain ⟨ys, h1, h2⟩ := core_Option_map_eq_some_iff_al.mp e
     subst h2
     obtain ⟨a, vs, rfl, hs, rs⟩ := seqA_at hK k r h1
     refine .inl ⟨_, ys.length, rfl, ?_, q c H _ (Nxt.refl c H) k (.int _)⟩
     rw [rs.len]
     exact hs.imp (fun h => ⟨vs, h, rfl⟩) fun h => ⟨vs, h, rfl⟩
   cases x with
   | str w =>
    cases e
    obtain ⟨e1, s1⟩ := r.s
    subst e1
    exact .inl ⟨_, w.length, rfl, ⟨by have := s1.len; rw [sizeLine_eq]; omega, rfl⟩, q c H _ (Nxt.refl c H) k (.int _)⟩
   | _ => exact other r (by exact e)
def isTy (T : String) (S : Store) : AV -> Option Bool
 | .non => some (T == "NoneType")
 | .bl _ => some (T == "bool" || T == "int")
 | .int _ => some (T == "int")
 | .str _ => some (T == "str")
 | .tup _ _ => some (T == "tuple")
 | .lst _ => some (T == "list")
 | .dic _ => some (T == "dict")
 | .ref i => match S[i]? with
  | some (.lst _) => some (T == "list")
  | some (.dic _) => some (T == "dict")
  | _ => none
 | _ => none
def BT (T : String) : Prop := T = "tuple" ∨ T = "list" ∨ T = "bool" ∨ T = "int" ∨ T = "str" ∨ T = "dict"
theorem isTy_at {T : String} {b : Bool} (hT : BT T) (hK : c.K = K) (k : Cor c S H) (r : Rel c H x v) (e : isTy T S x = some b) : ∃ t, TyX K H v t /\ PySem.W.kitOne K t (.type T) = some b := by
 have kb : ∀ (d : PyData) , PySem.W.kitOne K (.type (tyD d)) (.type T) = some (isA T d) := fun d => kit_ty (kit_isA hT d)
 cases x with
 | non => cases e; cases r; exact ⟨_, .base .non, kb .none⟩
 | bl b => cases e; cases r; exact ⟨_, .base (.bl _), kb (.bool b)⟩
 | int i => cases e; cases r; exact ⟨_, .base (.int _), kb (.int i)⟩
 | str i => cases e; cases r; exact ⟨_, .base (.str _), kb (.str i)⟩
 | tup p xs =>
  cases e
  subst hK
  cases r with
  | tup h _ rs =>
   rcases h with (h | ⟨o, h⟩) | ⟨o, its, n, h1, h2, _⟩
   ·exact ⟨_, .base (.tup h), kb (.tuple [])⟩
   ·exact ⟨_, .fTuple h, kb (.tuple [])⟩
   ·exact ⟨_, .kTuple h1 h2, kb (.tuple [])⟩
 | lst xs =>
  cases e
  cases r with
  | lst h _ rs => exact ⟨_, .base (.lst h), kb (.list [])⟩
 | dic xs =>
  cases e
  cases r with
  | dic h _ rs => exact ⟨_, .base (.dK h), kb (.dict [])⟩
 | ref i =>
  have e : (match S[i]? with
   | some (.lst _) => some (T == "list")
   | some (.dic _) => some (T == "dict")
   | _ => none) = some b := e
  cases q : S[i]? with
  | none =>
   rw [q] at e
   cases e
  | some o =>
   rw [q] at e
   obtain ⟨a, rfl, _, ro⟩ := k.obj r q
   cases o with
   | lst ys =>
    cases e
    obtain ⟨vs, h, _⟩ := ro
    exact ⟨_, .base (.lst h), kb (.list [])⟩
   | dic ys =>
    cases e
    obtain ⟨vs, h, _⟩ := ro
    exact ⟨_, .base (.dK h), kb (.dict [])⟩
   | obj n fs => cases e
   | nod ks => cases e
   | lkd ks => cases e
   | tdc b ks => cases e
 | _ => cases e
def dIsi (T : String) (da : DE) : DE := fun ρ S => (da ρ S).bind fun x S1 => ofO ((isTy T S1 x).map .bl) S1
theorem se_isi {T : String} (hT : BT T) (ha : SE W K ta da) : SE W K (tCB (rIsi K) (tCons ta (tCons (tC (.ty T)) tNil))) (dIsi T da) := by
 intro ρ S c σ H Q hK k e h
 refine ha ρ S c σ H _ hK k e (Res.post_mono (Res.post_bind.mp h) (fun x S1 h1 => ?_) fun _ _ z => z)
 intro c1 H1 u n1 k1 r1
 obtain ⟨z, hz, g⟩ := ofO_post h1
 obtain ⟨b, h2, h3⟩ := core_Option_map_eq_some_iff_al.mp hz
 subst h3
 obtain ⟨t, h4, h5⟩ := isTy_at hT (n1.K.trans hK) k1 r1 h2
 exact ⟨u, .ty T, t, .type T, b, rfl, .ty T, h4, h5, g c1 H1 _ n1 k1 (.bl _)⟩
theorem bt_tuple : BT "tuple" := .inl rfl
theorem bt_list : BT "list" := .inr (.inl rfl)
theorem bt_bool : BT "bool" := .inr (.inr (.inl rfl))
theorem bt_int : BT "int" := .inr (.inr (.inr (.inl rfl)))
theorem bt_str : BT "str" := .inr (.inr (.inr (.inr (.inl rfl))))
def fInt (xs : List AV) (_ : Store) : Option AV := match xs with
 | [.int i] => some (.int i)
 | [.bl b] => some (.int (if b then 1 else 0))
 | _ => none
theorem sc_int : SCn K (fun xs H Q => (∃ i, xs = [.int i] /\ Q (.int i) H) ∨ ∃ k, xs = [.bl k] /\ Q (.int (if k then 1 else 0)) H) fInt := by
 intro xs z S c us H Q hK k rs e q
 cases rs with
 | nil => cases e
 | @cons x u xs us r rs =>
  cases x with
  | int i =>
   cases rs with
   | cons _ _ => cases e
   | nil =>
    cases e
    exact .inl ⟨i, by rw [r.i], q c H _ (Nxt.refl c H) k (.int _)⟩
  | bl b =>
   cases rs with
   | cons _ _ => cases e
   | nil =>
    cases e
    cases r
    exact .inr ⟨b, rfl, q c H _ (Nxt.refl c H) k (.int _)⟩
  | _ => cases e
def fMax2 (xs : List AV) (_ : Store) : Option AV := match xs with
 | [.int i, .int j] => some (.int (if j > i then j else i))
 | _ => none
theorem two {P : Prop} (rs : Rels c H xs us) {i j : Int} (e : xs = [.int i, .int j]) : us = [.int i, .int j] := by
 subst e
 cases rs with
 | cons r rs =>
  cases rs with
  | cons r2 rs =>
   cases rs
   rw [r.i, r2.i]
theorem fMax2_eq (e : fMax2 xs S = some z) : ∃ i j, xs = [.int i, .int j] /\ z = .int (if j > i then j else i) := by
 unfold fMax2 at e
 split at e
 ·exact ⟨_, _, rfl, (Option.some.inj e).symm⟩
 ·cases e
theorem sc_max2 : SCn K (fun xs H Q => ∃ i j, xs = [.int i, .int j] /\ Q (.int (if j > i then j else i)) H) fMax2 := by
 intro xs z S c us H Q hK k rs e q
 obtain ⟨i, j, rfl, rfl⟩ := fMax2_eq e
 exact ⟨i, j, two (P := True) rs rfl, q c H _ (Nxt.refl c H) k (.int _)⟩
def tupA (S : Store) : AV -> Option AV
 | .tup p xs => some (.tup p xs)
 | x => (seqL S x).map (.tup true)
def fTuple (xs : List AV) (S : Store) : Option AV := match xs with
 | [x] => tupA S x
 | _ => none
theorem one_of {f : AV -> Option AV} (e : (match xs with
 | [x] => f x
 | _ => none) = some z) (rs : Rels c H xs us) : ∃ x u, xs = [x] /\ us = [u] /\ Rel c H x u /\ f x = some z := by
 split at e
 ·cases rs with
  | cons r rs =>
   cases rs
   exact ⟨_, _, rfl, rfl, r, e⟩
 ·cases e
def rTupF (K : PySem.W.Frag) : List V -> Hp -> VK -> Prop := fun xs H Q => ∃ p ys, xs = [.ref p] /\ ((SqL K H p ys /\ ∀ l o, H l = none -> o.cls = .type "tuple" -> o.dict = none -> Q (.ref l) (upd H l (.frz o (.tup ys)))) ∨ (SqT K H p ys /\ Q (.ref p) H))
theorem call_tupF {X : Cx} : CallR X (.type "tuple") (rTupF X.K) := by
 intro pins s σ H xs us Q I r h
 obtain ⟨p, ys, rfl, h⟩ := h
 obtain ⟨u, rfl, rx⟩ := vals1 r
 cases rx
 rcases h with ⟨hq, q⟩ | ⟨hq, q⟩
 ·obtain ⟨its, rl, pl, hz⟩ := I.list hq
  refine call_tuple_list pl.isList (fun h' kp => ?_) (by have := rl.length; rw [List.size_toArray]; omega)
  have J : Inv X pins σ H { s with heap := h' } := I.kept (t' := s.toks) kp
  have J2 : Inv X pins σ (upd H h'.objs.size (.frz { cls := .type "tuple", data := .seq its.toArray } (.tup ys))) { s with heap := h'.push { cls := .type "tuple", data := .seq its.toArray } } :=
   J.laid (t' := s.toks) (fun b o e => Heap.get?_push_of_some _ e) (core_Nat_le_refl_al _) ⟨Heap.get?_push_size _ rfl, show ObjOk X.prog X.w _ _ _ (.tup ys) from ⟨hz, its, rl, IsTup.new _ _⟩⟩
  exact ⟨.ref h'.objs.size, _, J2, rfl, q _ _ (J.hok.fresh (core_Nat_le_refl_al _)) rfl rfl⟩
 ·obtain ⟨its, rl, pl, hz⟩ := I.tuple hq
  exact call_tuple_same pl ⟨.ref p, H, I, rfl, q⟩
theorem sc_tuple : SCn K (rTupF K) fTuple := by
 intro xs z S c us H Q hK k rs e q
 obtain ⟨x, u, rfl, rfl, r, e⟩ := one_of (f := tupA S) e rs
 have lst : ∀ {x : AV}, Rel c H x u -> (seqL S x).map (.tup true) = some z -> rTupF K [u] H Q := fun {x} r e => by
  obtain ⟨ys, h1, h2⟩ := core_Option_map_eq_some_iff_al.mp e
  subst h2
  obtain ⟨a, vs, rfl, hs, rs⟩ := seqL_at k r h1
  exact ⟨a, vs, rfl, .inl ⟨sq_of hs, fun p o hp e1 e2 => q c _ _ (Nxt.new hp) (k.new hp) (new_tupF hp e1 e2 rs)⟩⟩
 cases x with
 | tup p ys =>
  cases e
  cases r with
  | tup h hp r1 => exact ⟨_, _, rfl, .inr ⟨by rw [<- hK]; exact h, q c H _ (Nxt.refl c H) k (.tup h hp r1)⟩⟩
 | _ => exact lst r (by exact e)
def bls : List AV -> Option (List Bool)
 | [] => some []
 | .bl b :: r => (bls r).map (b :: ·)
 | _ => none
theorem bls_at : ∀ {xs : List AV} {vs : List V} {bs : List Bool}, Rels c H xs vs -> bls xs = some bs -> vs = bs.map V.bl
 | _, _, _, .nil, e => by
  cases e
  rfl
 | x :: xs, v :: vs, bs, .cons r t, e => by
  cases x with
  | bl b =>
   obtain ⟨bs', h1, h2⟩ := core_Option_map_eq_some_iff_al.mp (show (bls xs).map (b :: ·) = some bs from e)
   subst h2
   cases r
   rw [bls_at t h1]
   rfl
  | _ => cases e
def fAll1 (x : AV) (S : Store) : Option AV := (seqL S x).bind fun ys => (bls ys).map fun bs => .bl (bs.all id)
def fAll (xs : List AV) (S : Store) : Option AV := match xs with
 | [x] => fAll1 x S
 | _ => none
theorem sc_all : SCn K (rAll K) fAll := by
 intro xs z S c us H Q hK k rs e q
 obtain ⟨x, u, rfl, rfl, r, e⟩ := one_of (f := fun x => fAll1 x S) e rs
 obtain ⟨ys, h1, e⟩ := Option.bind_eq_some_iff.mp e
 obtain ⟨bs, h2, h3⟩ := core_Option_map_eq_some_iff_al.mp e
 subst h3
 obtain ⟨a, vs, rfl, hs, rs⟩ := seqL_at k r h1
 have := bls_at rs h2
 subst this
 exact ⟨a, bs, rfl, sq_of hs, q c H _ (Nxt.refl c H) k (.bl _)⟩
def fFld (f : Str) (ns : List Str) (x : AV) (S : Store) : Option AV := match fsOf S x with
 | some (n, fs) => if n ∈ ns then fs.lookup f else none
 | none => none
def dFld (f : Str) (ns : List Str) (da : DE) : DE := fun ρ S => (da ρ S).bind fun x S1 => ofO (fFld f ns x S1) S1
end
abbrev DS := Env -> Store -> RS
def Res.go {α : Type} (r : Res α) (ρ : Env) (k : α -> Store -> RS) : RS := match r with
 | .ok a S => k a S
 | .exc e S => .go (.xc ρ e) S
 | .bad => .bad
@[simp] theorem Res.go_ok {α : Type} (a : α) (S : Store) (ρ : Env) (k : α -> Store -> RS) : (Res.ok a S).go ρ k = k a S := rfl
@[simp] theorem Res.go_exc {α : Type} (e : AV) (S : Store) (ρ : Env) (k : α -> Store -> RS) : (Res.exc e S : Res α).go ρ k = .go (.xc ρ e) S := rfl
@[simp] theorem Res.go_bad {α : Type} (ρ : Env) (k : α -> Store -> RS) : (Res.bad : Res α).go ρ k = .bad := rfl
section
variable {c c' : Co} {H H' : Hp} {N : L2.St -> Hp -> Prop} {W : WX} {ρ : Env} {S : Store} {e : AV} {σ : L2.St}
theorem FallS.fall (g : FallS c H W ρ e S) (r : EnvR c H ρ σ) : Fall c H (WE W σ) e S := fun c2 H2 cls d m k x => g c2 H2 σ cls d m k (r.nxt m) x
end
def SS (W : WX) (K : PySem.W.Frag) (t : TS) (d : DS) : Prop := ∀ (ρ : Env) (S : Store) (c : Co) (σ : L2.St) (H : Hp) (D : Ends), c.K = K -> Cor c S H -> EnvR c H ρ σ -> SP c H W D (d ρ S) -> t D σ H
section
variable {W : WX} {K : PySem.W.Frag} {te tv ta : TE} {de dv da : DE} {tA : TA} {dA : DA} {tT : TT} {dT : DT} {t u tb : TS} {d d' db : DS}
theorem go_post {α : Type} {r : Res α} {ρ : Env} {k : α -> Store -> RS} {c : Co} {H : Hp} {D : Ends} {σ : L2.St} (e : EnvR c H ρ σ) (h : SP c H W D (r.go ρ k)) : r.post (fun a S => SP c H W D (k a S)) (Fall c H (WE W σ)) := by
 cases r with
 | ok a S => exact h
 | exc x S => exact (show FallS c H W ρ x S from h).fall e
 | bad => exact h
def dNext : DS := fun ρ S => .go (.nx ρ) S
theorem ss_next : SS W K tNext dNext := fun ρ S c σ H D _ k e h => (show GoodN c H D.nx ρ S from h) c H σ (Nxt.refl c H) k e
def dSeq (d d' : DS) : DS := fun ρ S => match d ρ S with
 | .go (.nx ρ1) S1 => d' ρ1 S1
 | r => r
theorem ss_seq (h1 : SS W K t d) (h2 : SS W K u d') : SS W K (tSeq t u) (dSeq d d') := by
 intro ρ S c σ H D hK k e h
 refine h1 ρ S c σ H _ hK k e ?_
 unfold dSeq at h
 cases q : d ρ S with
 | bad =>
  rw [q] at h
  exact h
 | go f S1 =>
  rw [q] at h
  cases f with
  | nx ρ1 => exact fun c1 H1 σ1 n1 k1 e1 => h2 ρ1 S1 c1 σ1 H1 D (n1.K.trans hK) k1 e1 (SP.nxt h n1)
  | rt v => exact h
  | bk ρ1 => exact h
  | ct ρ1 => exact h
  | xc ρ1 x => exact h
def dDrop (de : DE) : DS := fun ρ S => (de ρ S).go ρ fun _ S1 => .go (.nx ρ) S1
theorem ss_drop (he : SE W K te de) : SS W K (tDrop te) (dDrop de) := by
 intro ρ S c σ H D hK k e h
 exact he ρ S c σ H _ hK k e (Res.post_mono (go_post e h) (fun x S1 h1 c1 H1 v n1 k1 r1 => (show GoodN c H D.nx ρ S1 from h1) c1 H1 σ n1 k1 (e.nxt n1)) fun _ _ z => z)
def dRet (de : DE) : DS := fun ρ S => (de ρ S).go ρ fun v S1 => .go (.rt v) S1
theorem ss_ret (he : SE W K te de) : SS W K (tRet te) (dRet de) := by
 intro ρ S c σ H D hK k e h
 exact he ρ S c σ H _ hK k e (Res.post_mono (go_post e h) (fun x S1 h1 => h1) fun _ _ z => z)
def dRetN : DS := fun _ S => .go (.rt .non) S
def dIfS (dT : DT) (d d' : DS) : DS := fun ρ S => (dT ρ S).go ρ fun b S1 => if b = true then d ρ S1 else d' ρ S1
theorem ss_if (ht : ST W K tT dT) (h1 : SS W K t d) (h2 : SS W K u d') : SS W K (tIfS tT t u) (dIfS dT d d') := by
 intro ρ S c σ H D hK k e h
 refine ht ρ S c σ H _ hK k e (Res.post_mono (go_post e h) (fun b S1 q c1 H1 n1 k1 => ?_) fun _ _ z => z)
 cases b with
 | true => exact h1 ρ S1 c1 σ H1 D (n1.K.trans hK) k1 (e.nxt n1) (SP.nxt q n1)
 | false => exact h2 ρ S1 c1 σ H1 D (n1.K.trans hK) k1 (e.nxt n1) (SP.nxt q n1)
abbrev DG := AV -> Env -> Option Env
abbrev DGs := List AV -> Env -> Option Env
def SG (K : PySem.W.Frag) (t : TG) (d : DG) : Prop := ∀ (x : AV) (v : V) (ρ ρ' : Env) (S : Store) (c : Co) (σ : L2.St) (H : Hp) (Q : L2.St -> Hp -> Prop), c.K = K -> Cor c S H -> EnvR c H ρ σ -> Rel c H x v ->
 d x ρ = some ρ' -> GoodN c H Q ρ' S -> t v σ H Q
def SGs (K : PySem.W.Frag) (t : TGs) (d : DGs) : Prop := ∀ (xs : List AV) (vs : List V) (ρ ρ' : Env) (S : Store) (c : Co) (σ : L2.St) (H : Hp) (Q : L2.St -> Hp -> Prop), c.K = K -> Cor c S H -> EnvR c H ρ σ -> Rels c H xs vs ->
 d xs ρ = some ρ' -> GoodN c H Q ρ' S -> t vs σ H Q
def dgName (i : Nat) : DG := fun x ρ => some (ρ.set i (some x))
theorem sg_name {i : Nat} : SG K (gName i) (dgName i) := fun x v ρ ρ' S c σ H Q hK k e r h g => by
 cases h
 exact g c H _ (Nxt.refl c H) k (e.set r)
def dgNil : DGs := fun xs ρ => match xs with
 | [] => some ρ
 | _ => none
def dgCons (dg : DG) (dr : DGs) : DGs := fun xs ρ => match xs with
 | x :: r => (dg x ρ).bind (dr r)
 | [] => none
theorem sgs_nil : SGs K gNil dgNil := by
 intro xs vs ρ ρ' S c σ H Q hK k e r h g
 cases r with
 | nil =>
  cases h
  exact ⟨rfl, g c H σ (Nxt.refl c H) k e⟩
 | cons _ _ => cases h
theorem sgs_cons {tg : TG} {dg : DG} {tr : TGs} {dr : DGs} (hg : SG K tg dg) (hr : SGs K tr dr) : SGs K (gCons tg tr) (dgCons dg dr) := by
 intro xs vs ρ ρ' S c σ H Q hK k e r h g
 cases r with
 | nil => cases h
 | @cons x v xs vs r rs =>
  obtain ⟨ρ1, h1, h2⟩ := Option.bind_eq_some_iff.mp (show (dg x ρ).bind (dr xs) = some ρ' from h)
  exact ⟨v, vs, rfl, hg x v ρ ρ1 S c σ H _ hK k e r h1 fun c1 H1 σ1 n1 k1 e1 => hr xs vs ρ1 ρ' S c1 σ1 H1 Q (n1.K.trans hK) k1 e1 (rs.nxt n1) h2 (g.nxt n1)⟩
def dgTup (n : Nat) (dr : DGs) : DG := fun x ρ => match x with
 | .tup _ xs => if xs.length = n then dr xs ρ else none
 | _ => none
theorem sg_tup {n : Nat} {tr : TGs} {dr : DGs} (hr : SGs K tr dr) : SG K (gTup K n tr) (dgTup n dr) := by
 intro x v ρ ρ' S c σ H Q hK k e r h g
 cases x with
 | tup p xs =>
  have h : (if xs.length = n then dr xs ρ else none) = some ρ' := h
  split at h
  ·rename_i hn
   cases r with
   | tup hs _ rs =>
    subst hK
    exact ⟨_, _, rfl, hs, by rw [<- rs.len]; exact hn, hr xs _ ρ ρ' S c σ H Q rfl k e rs h g⟩
  ·cases h
 | _ => cases h
def dAsg (de : DE) (dg : DG) : DS := fun ρ S => (de ρ S).go ρ fun x S1 => match dg x ρ with
 | some ρ1 => .go (.nx ρ1) S1
 | none => .bad
theorem ss_asg {g : TG} {dg : DG} (he : SE W K te de) (hg : SG K g dg) : SS W K (tAsg te g) (dAsg de dg) := by
 intro ρ S c σ H D hK k e h
 refine he ρ S c σ H _ hK k e (Res.post_mono (go_post e h) (fun x S1 h1 => ?_) fun _ _ z => z)
 intro c1 H1 v n1 k1 r1
 cases q : dg x ρ with
 | none =>
  rw [q] at h1
  exact False.elim h1
 | some ρ1 =>
  rw [q] at h1
  exact hg x v ρ ρ1 S1 c1 σ H1 _ (n1.K.trans hK) k1 (e.nxt n1) r1 q (GoodN.nxt (show GoodN c H D.nx ρ1 S1 from h1) n1)
structure Wk where
 xs : List AV
 gd : Store -> Bool
abbrev DI := Env -> Store -> Res Wk
def ItOk (c1 : Co) (H1 : Hp) (its : Wk) (J : It) : Prop := ∃ (G : Hp -> Prop) (Y : Nat -> Hp -> V -> Hp -> Prop), Walk J its.xs.length G Y /\ (∀ c S H, Nxw c1 H1 c H -> Cor c S H -> its.gd S -> G H) /\
 (∀ i x H H' c S, i < its.xs.length -> Nxw c1 H1 c H -> Cor c S H -> its.gd S -> Y i H x H' -> ∃ y, its.xs[i]? = some y /\ Nxt c H c H' /\ Cor c S H' /\ Rel c H' y x)
def SI (W : WX) (K : PySem.W.Frag) (t : TI) (d : DI) : Prop := ∀ (ρ : Env) (S : Store) (c : Co) (σ : L2.St) (H : Hp) (R : It -> Hp -> Prop), c.K = K -> Cor c S H -> EnvR c H ρ σ ->
 (d ρ S).post (fun its S' => ∀ c1 H1 J, Nxt c H c1 H1 -> Cor c1 S' H1 -> ItOk c1 H1 its J -> R J H1) (Fall c H (WE W σ)) -> t σ H R
def forL (gd : Store -> Bool) (g : DG) (body : DS) : List AV -> Env -> Store -> RS
 | [], ρ, S => if gd S then .go (.nx ρ) S else .bad
 | x :: r, ρ, S => if gd S then (match g x ρ with
  | some ρ1 => (match body ρ1 S with
   | .go (.nx ρ2) S2 => forL gd g body r ρ2 S2
   | .go (.ct ρ2) S2 => forL gd g body r ρ2 S2
   | .go (.bk ρ2) S2 => .go (.nx ρ2) S2
   | q => q)
  | none => .bad) else .bad
def dFor (di : DI) (g : DG) (body : DS) : DS := fun ρ S => (di ρ S).go ρ fun its S1 => forL its.gd g body its.xs ρ S1
theorem ss_for {wi : TI} {di : DI} {g : TG} {dg : DG} (hi : SI W K wi di) (hg : SG K g dg) (hb : SS W K tb db) : SS W K (tFor wi g tb) (dFor di dg db) := by
 intro ρ S c σ H D hK k e h
 refine hi ρ S c σ H _ hK k e (Res.post_mono (go_post e h) (fun its S1 h1 => ?_) fun _ _ z => z)
 intro c1 H1 J n1 k1 ⟨G, Y, w, hG, hY⟩
 have e1 := e.nxt n1
 have h1 : SP c1 H1 W D (forL its.gd dg db its.xs ρ S1) := SP.nxt h1 n1
 have gd0 : ∀ {r : List AV} {ρ : Env} {S : Store} {c : Co} {H : Hp}, SP c H W D (forL its.gd dg db r ρ S) -> its.gd S := fun {r ρ S c H} h => by
  cases r with
  | nil =>
   unfold forL at h
   split at h
   ·assumption
   ·exact False.elim h
  | cons x r =>
   unfold forL at h
   split at h
   ·assumption
   ·exact False.elim h
 refine for_it w (fun i σ' H' => ∃ c' ρ' S', Nxt c1 H1 c' H' /\ Cor c' S' H' /\ EnvR c' H' ρ' σ' /\ SP c' H' W D (forL its.gd dg db (its.xs.drop i) ρ' S')) ⟨c1, ρ, S1, Nxt.refl c1 H1, k1, e1, h1⟩ ?_ ?_ ?_
 ·rintro i σ' H' hi ⟨c', ρ', S', n, k', e', p⟩
  exact hG c' S' H' n.w k' (gd0 p)
 ·rintro i x σ' H' H2 hi ⟨c', ρ', S', n, k', e', p⟩ y
  have gS := gd0 p
  obtain ⟨z, hz, n2, k2, r2⟩ := hY i x H' H2 c' S' hi n.w k' gS y
  have hd : its.xs.drop i = z :: its.xs.drop (i + 1) := by
   obtain ⟨hl, hz'⟩ := core_List_getElem__eq_some_iff_al.mp hz
   rw [List.drop_eq_getElem_cons hl, hz']
  rw [hd] at p
  unfold forL at p
  rw [if_pos gS] at p
  cases q : dg z ρ' with
  | none =>
   rw [q] at p
   exact False.elim p
  | some ρ1 =>
   rw [q] at p
   simp only at p
   refine hg z x ρ' ρ1 S' c' σ' H2 _ (n.K.trans (n1.K.trans hK)) k2 (e'.nxt n2) r2 q fun c3 H3 σ3 n3 k3 e3 => ?_
   have p := SP.nxt (SP.nxt p n2) n3
   have nn := (n.trans n2).trans n3
   refine hb ρ1 S' c3 σ3 H3 _ (nn.K.trans (n1.K.trans hK)) k3 e3 ?_
   cases q2 : db ρ1 S' with
   | bad =>
    rw [q2] at p
    exact False.elim p
   | go f S2 =>
    rw [q2] at p
    cases f with
    | nx ρ2 => exact fun c4 H4 σ4 n4 k4 e4 => ⟨c4, ρ2, S2, nn.trans n4, k4, e4, SP.nxt p n4⟩
    | ct ρ2 => exact fun c4 H4 σ4 n4 k4 e4 => ⟨c4, ρ2, S2, nn.trans n4, k4, e4, SP.nxt p n4⟩
    | bk ρ2 => exact p
    | rt v => exact p
    | xc ρ2 x => exact p
 ·rintro σ' H' ⟨c', ρ', S', n, k', e', p⟩
  rw [List.drop_length] at p
  unfold forL at p
  rw [if_pos (gd0 (r := []) (by unfold forL; exact p))] at p
  exact (show GoodN c' H' D.nx ρ' S' from p) c' H' σ' (Nxt.refl c' H') k' e'
end
section
variable {W : WX} {K : PySem.W.Frag} {c c' : Co} {S : Store} {H H' : Hp} {x y z : AV} {u v : V} {xs ys : List AV} {us vs : List V} {te ta : TE} {da de : DE} {tA : TA} {dA : DA}
theorem Cor.there (k : Cor c S H) {i : Nat} {a : Addr} (h : c.tr[i]? = some a) : ∃ o, S[i]? = some o /\ RelO c H a o := by
 have hl : i < S.length := by
  rw [k.len]
  exact (core_List_getElem__eq_some_iff_al.mp h).1
 exact ⟨S[i], core_List_getElem__eq_getElem_al hl, k.at_ i _ a (core_List_getElem__eq_getElem_al hl) h⟩
theorem Cor.setL {us : List V} (k : Cor c S H) {i : Nat} {a : Addr} (h : c.tr[i]? = some a) (hv : H a = some (.lst us)) (r : Rels c H xs vs) : Cor c (S.set i (.lst xs)) (upd H a (.lst vs)) :=
 k.set h ⟨_, hv, trivial⟩ ⟨vs, upd_same, r.nxt (k.nxtSet h ⟨_, hv, trivial⟩)⟩
def Co.add (c : Co) (p : Addr) : Co := { c with tr := c.tr ++ [p] }
theorem Nxt.add (k : Cor c S H) {p : Addr} {o : HO} (hp : H p = none) : Nxt c H (c.add p) (upd H p o) := by
 have n := Nxt.new (c := c) (o := o) hp
 exact ⟨rfl, rfl, ⟨fun _ h => h, fun _ h => .inl h⟩, ⟨[p], rfl, fun a h => by
  rw [core_List_mem_singleton_al.mp h]
  exact hp⟩, n.keep, n.hkeep, n.tup, n.frz, n.live⟩
theorem Cor.add (k : Cor c S H) {p : Addr} {ho : HO} {o : AO} (hp : H p = none) (r : RelO (c.add p) (upd H p ho) p o) : Cor (c.add p) (S ++ [o]) (upd H p ho) := by
 have n := Nxt.add k (o := ho) hp
 have hn := k.out hp
 refine ⟨by simp [Co.add, k.len], ?_, fun a ha => ?_, fun b hb => n.live b (k.hl b hb), fun j q b e1 e2 => ?_⟩
 ·show (c.tr ++ [p]).Nodup
  rw [core_List_nodup_append_al]
  refine ⟨k.nd, by simp, fun a ha b hb z => hn.1 ?_⟩
  rw [<- core_List_mem_singleton_al.mp hb, <- z]
  exact ha
 ·rcases core_List_mem_append_al.mp ha with h | h
  ·exact k.apart a h
  ·rw [core_List_mem_singleton_al.mp h]
   exact hn.2
 ·by_cases z : j < S.length
  ·rw [core_List_getElem__append_left_al z] at e1
   have e2' : c.tr[j]? = some b := by
    have : (c.tr ++ [p])[j]? = some b := e2
    rw [core_List_getElem__append_left_al (by rw [<- k.len]; exact z)] at this
    exact this
   have r' := k.at_ j q b e1 e2'
   exact r'.nxt n (upd_ne fun w => r'.isThere (by rw [w]; exact hp))
  ·have hj : j = S.length := by
    have h1 := (core_List_getElem__eq_some_iff_al.mp e1).1
    rw [core_List_length_append_al, core_List_length_singleton_al] at h1
    omega
   subst hj
   rw [core_List_getElem__append_right_al (core_Nat_le_refl_al _), Nat.sub_self] at e1
   cases e1
   have e2' : (c.tr ++ [p])[S.length]? = some b := e2
   rw [k.len, core_List_getElem__append_right_al (core_Nat_le_refl_al _), Nat.sub_self] at e2'
   cases e2'
   exact r
theorem Co.add_at (k : Cor c S H) {p : Addr} : (c.add p).tr[S.length]? = some p := by
 show (c.tr ++ [p])[S.length]? = some p
 rw [k.len, core_List_getElem__append_right_al (core_Nat_le_refl_al _), Nat.sub_self]
 rfl
abbrev DL := Env -> Store -> Res (List AV)
def SEL (W : WX) (K : PySem.W.Frag) (t : TE) (d : DL) : Prop := ∀ (ρ : Env) (S : Store) (c : Co) (σ : L2.St) (H : Hp) (Q : VK), c.K = K -> Cor c S H -> EnvR c H ρ σ ->
 (d ρ S).post (fun xs S' => ∀ c' H0 vs p, Nxt c H c' H0 -> Cor c' S' H0 -> H0 p = none -> Rels c' H0 xs vs -> Q (.ref p) (upd H0 p (.lst vs))) (Fall c H (WE W σ)) -> t σ H Q
def dFz (d : DL) : DE := fun ρ S => (d ρ S).bind fun xs S1 => .ok (.lst xs) S1
def dTh (d : DL) : DE := fun ρ S => (d ρ S).bind fun xs S1 => .ok (.ref S1.length) (S1 ++ [.lst xs])
theorem se_fz {d : DL} (h : SEL W K te d) : SE W K te (dFz d) := by
 intro ρ S c σ H Q hK k e q
 refine h ρ S c σ H Q hK k e (Res.post_mono (Res.post_bind.mp q) (fun xs S1 g => ?_) fun _ _ z => z)
 intro c1 H1 vs p n1 k1 hp r
 exact g c1 _ _ (n1.trans (Nxt.new hp)) (k1.new hp) (new_lst k1 hp r)
theorem se_th {d : DL} (h : SEL W K te d) : SE W K te (dTh d) := by
 intro ρ S c σ H Q hK k e q
 refine h ρ S c σ H Q hK k e (Res.post_mono (Res.post_bind.mp q) (fun xs S1 g => ?_) fun _ _ z => z)
 intro c1 H1 vs p n1 k1 hp r
 have n2 := Nxt.add k1 (o := .lst vs) hp
 exact g (c1.add p) _ _ (n1.trans n2) (k1.add hp ⟨vs, upd_same, r.nxt n2⟩) (.ref (Co.add_at k1))
def dlLst (dA : DA) : DL := fun ρ S => (dA ρ S).bind fun xs S1 => if xs.length <= lim then .ok xs S1 else .bad
theorem sl_lst (ha : SA W K tA dA) : SEL W K (tLst tA) (dlLst dA) := by
 intro ρ S c σ H Q hK k e h
 refine ha ρ S c σ H _ hK k e (Res.post_mono (Res.post_bind.mp h) (fun xs S1 h1 => ?_) fun _ _ z => z)
 intro c1 H1 vs n1 k1 r1
 split at h1
 ·rename_i hl
  exact ⟨by rw [<- r1.len]; exact lim_line hl, fun p hp => h1 c1 H1 vs p n1 k1 hp r1⟩
 ·exact False.elim h1
def flList (xs : List AV) (S : Store) : Option (List AV) := match xs with
 | [x] => seqA S x
 | _ => none
def dlCB (f : List AV -> Store -> Option (List AV)) (dA : DA) : DL := fun ρ S => (dA ρ S).bind fun xs S1 => ofO (f xs S1) S1
theorem sl_list (ha : SA W K tA dA) : SEL W K (tCB (fun xs H Q => ∃ p ys, xs = [.ref p] /\ (SqL K H p ys ∨ SqT K H p ys) /\ ∀ l, H l = none -> Q (.ref l) (upd H l (.lst ys))) tA) (dlCB flList dA) := by
 intro ρ S c σ H Q hK k e h
 refine ha ρ S c σ H _ hK k e (Res.post_mono (Res.post_bind.mp h) (fun xs S1 h1 => ?_) fun _ _ z => z)
 intro c1 H1 us n1 k1 rs
 obtain ⟨ys, e1, g⟩ := ofO_post h1
 unfold flList at e1
 split at e1
 ·cases rs with
  | cons r rs =>
   cases rs
   obtain ⟨a, vs, rfl, hs, rs⟩ := seqA_at (n1.K.trans hK) k1 r e1
   exact ⟨a, vs, rfl, hs, fun p hp => g c1 H1 vs p n1 k1 hp rs⟩
 ·cases e1
def Co.hide (c : Co) (D : Addr) : Co := { c with hid := fun a => a = D ∨ c.hid a }
def Co.unhide (c : Co) (D : Addr) : Co := { c with hid := fun a => a ≠ D /\ c.hid a }
section
variable {D : Addr} {o : HO}
structure Fits (D : Addr) (H H' : Hp) : Prop where
 eq : ∀ a, a ≠ D -> H' a = H a
 nt : ∀ xs, H D ≠ some (.tup xs)
 nf : ∀ o u, H D ≠ some (.frz o (.tup u))
theorem Fits.sqT (f : Fits D H H') {a : Addr} {vs : List V} (h : SqT K H a vs) : SqT K H' a vs := by
 have ne : ∀ xs, H a = some (.tup xs) -> a ≠ D := fun xs e z => f.nt xs (by rw [<- z]; exact e)
 have ne2 : ∀ o u, H a = some (.frz o (.tup u)) -> a ≠ D := fun o u e z => f.nf o u (by rw [<- z]; exact e)
 rcases h with (h | ⟨o, h⟩) | h
 ·exact .inl (.inl (by rw [f.eq a (ne _ h)]; exact h))
 ·exact .inl (.inr ⟨o, by rw [f.eq a (ne2 _ _ h)]; exact h⟩)
 ·exact .inr h
theorem Fits.pln (f : Fits D H H') {a : Addr} (h : Pln K H a) : Pln K H' a := by
 rcases h with ⟨o, u, h, h1, h2⟩ | h
 ·exact .inl ⟨o, u, by rw [f.eq a fun z => f.nf o _ (by rw [<- z]; exact h)]; exact h, h1, h2⟩
 ·exact .inr h
structure Same2 (c c' : Co) (D : Addr) (H H' : Hp) : Prop where
 K : c'.K = c.K
 ex : c'.ex = c.ex
 tr : c'.tr = c.tr
 out : ∀ a, H a ≠ none -> c.Out a -> a ≠ D /\ c'.Out a
 fit : Fits D H H'
mutual
theorem Rel.hid (f : Same2 c c' D H H') : ∀ {x : AV} {v : V}, Rel c H x v -> Rel c' H' x v
 | _, _, .non => .non
 | _, _, .bl b => .bl b
 | _, _, .int i => .int i
 | _, _, .opq a => .opq a
 | _, _, .str h => .str h
 | _, _, .tup h hp r => .tup (by rw [f.K]; exact f.fit.sqT h) (fun z => by rw [f.K]; exact f.fit.pln (hp z)) (Rels.hid f r)
 | _, _, .lst h ha r => .lst (by rw [f.fit.eq _ (f.out _ (by rw [h]; simp) ha).1]; exact h) (f.out _ (by rw [h]; simp) ha).2 (Rels.hid f r)
 | _, _, .dic h ha r => .dic (by rw [f.fit.eq _ (f.out _ (by rw [h]; simp) ha).1]; exact h) (f.out _ (by rw [h]; simp) ha).2 (Relk.hid f r)
 | _, _, .obj h ha r => .obj (by rw [f.fit.eq _ (f.out _ (by rw [h]; simp) ha).1, f.K]; exact h) (f.out _ (by rw [h]; simp) ha).2 (Relf.hid f r)
 | _, _, .exc h r => .exc (by rw [f.ex, f.K]; exact h) (Relx.hid f r)
 | _, _, .key h => .key (by rw [f.fit.eq _ fun z => f.fit.nt _ (by rw [<- z]; exact h)]; exact h)
 | _, _, .ref h => .ref (by rw [f.tr]; exact h)
theorem Rels.hid (f : Same2 c c' D H H') : ∀ {xs : List AV} {vs : List V}, Rels c H xs vs -> Rels c' H' xs vs
 | _, _, .nil => .nil
 | _, _, .cons r rs => .cons (Rel.hid f r) (Rels.hid f rs)
theorem Relk.hid (f : Same2 c c' D H H') : ∀ {xs : List (AV × AV)} {vs : List (Key × V)}, Relk c H xs vs -> Relk c' H' xs vs
 | _, _, .nil => .nil
 | _, _, .cons k r rs => .cons (Rel.hid f k) (Rel.hid f r) (Relk.hid f rs)
theorem Relf.hid (f : Same2 c c' D H H') : ∀ {xs : List (Str × AV)} {vs : List (Str × V)}, Relf c H xs vs -> Relf c' H' xs vs
 | _, _, .nil => .nil
 | _, _, .cons r rs => .cons (Rel.hid f r) (Relf.hid f rs)
theorem Relx.hid (f : Same2 c c' D H H') : ∀ {fs : List (Str × AV)} {d : Option Addr}, Relx c H fs d -> Relx c' H' fs d
 | _, _, .nil => .nil
 | _, _, .some h ha r => .some (by rw [f.fit.eq _ (f.out _ (by rw [h]; simp) ha).1]; exact h) (f.out _ (by rw [h]; simp) ha).2 (Relf.hid f r)
end
theorem Relt.hid (f : Same2 c c' D H H') : ∀ {xs : List (List Key × AV)} {vs : List (List Key × V)}, Relt c H xs vs -> Relt c' H' xs vs
 | _, _, .nil => .nil
 | _, _, .cons r t => .cons (r.hid f) (Relt.hid f t)
theorem EnvR.hid {ρ : Env} {σ : L2.St} (f : Same2 c c' D H H') (e : EnvR c H ρ σ) : EnvR c' H' ρ σ :=
 ⟨e.1, fun i x h => let ⟨v, h2, r⟩ := e.2 i x h; ⟨v, h2, r.hid f⟩⟩
theorem RelO.hid {a : Addr} {o : AO} (f : Same2 c c' D H H') (n : a ≠ D) (r : RelO c H a o) : RelO c' H' a o := by
 cases o with
 | lst xs =>
  obtain ⟨vs, h1, h2⟩ := r
  exact ⟨vs, by rw [f.fit.eq a n]; exact h1, h2.hid f⟩
 | dic xs =>
  obtain ⟨vs, h1, h2⟩ := r
  exact ⟨vs, by rw [f.fit.eq a n]; exact h1, h2.hid f⟩
 | obj m xs =>
  obtain ⟨dx, vs, h1, h2⟩ := r
  exact ⟨dx, vs, by rw [f.fit.eq a n, f.K]; exact h1, h2.hid f⟩
 | nod xs => exact (f.fit.eq a n).trans r
 | lkd xs =>
  obtain ⟨od, vs, h1, h2⟩ := r
  exact ⟨od, vs, by rw [f.fit.eq a n]; exact h1, h2.hid f⟩
 | tdc b xs =>
  obtain ⟨vs, h1, h2⟩ := r
  refine ⟨vs, ?_, h2.hid f⟩
  cases b with
  | false => exact (f.fit.eq a n).trans h1
  | true =>
   obtain ⟨od, h1⟩ := h1
   exact ⟨od, (f.fit.eq a n).trans h1⟩
theorem Cor.hid (f : Same2 c c' D H H') (k : Cor c S H) (hn : ∀ a ∈ c.tr, a ≠ D) (hap : ∀ a ∈ c'.tr, ¬ c'.hid a) (hl : ∀ a, c'.hid a -> H' a ≠ none) : Cor c' S H' :=
 ⟨by rw [f.tr]; exact k.len, by rw [f.tr]; exact k.nd, hap, hl, fun i o a e1 e2 => by
  rw [f.tr] at e2
  exact (k.at_ i o a e1 e2).hid f (hn a (core_List_mem_of_getElem__al e2))⟩
end
end
section
variable {W : WX} {K : PySem.W.Frag} {c c' : Co} {S : Store} {H H' : Hp} {x y z : AV} {u v : V} {xs ys : List AV} {us vs : List V} {te ta : TE} {da de : DE} {tA : TA} {dA : DA}
def wipeE (ρ : Env) : List Nat -> Env
 | [] => ρ
 | v :: vs => (wipeE ρ vs).set v none
theorem EnvR.wipe {ρ : Env} {σ : L2.St} (e : EnvR c H ρ σ) : ∀ vs : List Nat, EnvR c H (wipeE ρ vs) (L2.wipe σ vs)
 | [] => e
 | v :: vs => (EnvR.wipe e vs).clear
def GW (vs : List Nat) (g : TG) : Prop := ∀ v σ H Q, g v σ H Q -> g v σ H fun σ2 H2 => wipe σ2 vs = wipe σ vs /\ Q σ2 H2
def GWs (vs : List Nat) (g : TGs) : Prop := ∀ v σ H Q, g v σ H Q -> g v σ H fun σ2 H2 => wipe σ2 vs = wipe σ vs /\ Q σ2 H2
theorem wipe_set {σ : L2.St} {j : Nat} {y : Option V} : ∀ {vs : List Nat}, j ∈ vs -> wipe (σ.set j y) vs = wipe σ vs
 | [], h => absurd h core_List_not_mem_nil_al
 | v :: vs, h => by
  unfold L2.wipe
  by_cases q : j ∈ vs
  ·rw [wipe_set q]
  ·have e : j = v := by
    rcases core_List_mem_cons_al.mp h with z | z
    ·exact z
    ·exact absurd z q
   subst e
   have out : ∀ {vs : List Nat}, j ∉ vs -> wipe (σ.set j y) vs = (wipe σ vs).set j y := fun {vs} hv => by
    induction vs with
    | nil => rfl
    | cons w ws ih =>
     unfold L2.wipe
     rw [ih fun z => hv (core_List_mem_cons_of_mem_al _ z)]
     exact List.set_comm _ _ fun z => hv (by rw [z]; exact core_List_mem_cons_self_al)
   rw [out q, List.set_set]
theorem gw_name {vs : List Nat} {j : Nat} (h : j ∈ vs := by decide) : GW vs (gName j) := fun v σ H Q q => ⟨wipe_set h, q⟩
theorem gws_nil {vs : List Nat} : GWs vs gNil := fun v σ H Q q => ⟨q.1, rfl, q.2⟩
def GM (g : TG) : Prop := ∀ v σ H Q Q', g v σ H Q -> (∀ σ2 H2, Q σ2 H2 -> Q' σ2 H2) -> g v σ H Q'
def GMs (g : TGs) : Prop := ∀ v σ H Q Q', g v σ H Q -> (∀ σ2 H2, Q σ2 H2 -> Q' σ2 H2) -> g v σ H Q'
theorem gm_name {j : Nat} : GM (gName j) := fun v σ H Q Q' q h => h _ _ q
theorem gms_nil : GMs gNil := fun v σ H Q Q' q h => ⟨q.1, h _ _ q.2⟩
theorem gms_cons {t : TG} {r : TGs} (a : GM t) (b : GMs r) : GMs (gCons t r) := fun v σ H Q Q' q h => by
 obtain ⟨x, l, e, q⟩ := q
 exact ⟨x, l, e, a _ _ _ _ _ q fun σ2 H2 q2 => b _ _ _ _ _ q2 h⟩
theorem gm_tup {n : Nat} {r : TGs} (b : GMs r) : GM (gTup K n r) := fun v σ H Q Q' q h => by
 obtain ⟨a, l, e, s, n, q⟩ := q
 exact ⟨a, l, e, s, n, b _ _ _ _ _ q h⟩
theorem gws_cons {vs : List Nat} {t : TG} {r : TGs} (a : GW vs t) (m : GM t) (b : GWs vs r) (m2 : GMs r) : GWs vs (gCons t r) := fun v σ H Q q => by
 obtain ⟨x, l, e, q⟩ := q
 refine ⟨x, l, e, m _ _ _ _ _ (a _ _ _ _ q) fun σ2 H2 h => ?_⟩
 refine m2 _ _ _ _ _ (b _ _ _ _ h.2) fun σ3 H3 h3 => ⟨h3.1.trans h.1, h3.2⟩
theorem gw_tup {vs : List Nat} {n : Nat} {r : TGs} (b : GWs vs r) : GW vs (gTup K n r) := fun v σ H Q q => by
 obtain ⟨a, l, e, s, n, q⟩ := q
 exact ⟨a, l, e, s, n, b _ _ _ _ q⟩
theorem wipe_wipe {σ : L2.St} : ∀ {vs : List Nat}, wipe (wipe σ vs) vs = wipe σ vs := fun {vs} => by
 have out : ∀ (ws : List Nat) (τ : L2.St), (∀ j ∈ ws, j < τ.length -> τ[j]? = some none) -> wipe τ ws = τ := fun ws => by
  induction ws with
  | nil => exact fun _ _ => rfl
  | cons w ws ih =>
   intro τ h
   unfold L2.wipe
   rw [ih τ fun j hj => h j (core_List_mem_cons_of_mem_al _ hj)]
   by_cases hl : w < τ.length
   ·have e := h w core_List_mem_cons_self_al hl
    apply List.ext_getElem?
    intro i
    by_cases q : i = w
    ·subst q
     rw [core_List_getElem__set_self_al hl, e]
    ·rw [core_List_getElem__set_ne_al (Ne.symm q)]
   ·exact List.set_eq_of_length_le (by omega)
 refine out vs _ fun j hj hl => ?_
 cases e : (wipe σ vs)[j]? with
 | none => exact absurd hl (by simpa using e)
 | some o =>
  cases o with
  | none => rfl
  | some x => exact absurd hj (wipe_some e).2
def Res.nox {α : Type} (r : Res α) : Res α := match r with
 | .exc _ _ => .bad
 | r => r
@[simp] theorem Res.nox_ok {α : Type} (a : α) (S : Store) : (Res.ok a S).nox = .ok a S := rfl
theorem nox_post {α : Type} {r : Res α} {g : α -> Store -> Prop} {x y : AV -> Store -> Prop} (h : r.nox.post g x) : r.post g y := by
 cases r with
 | ok a S => exact h
 | exc e S => exact False.elim h
 | bad => exact h
def lcL (gd : Store -> Bool) (dg : DG) (dt : DT) (de : DE) (ρ : Env) : List AV -> Store -> Res (List AV)
 | [], S => if gd S then .ok [] S else .bad
 | x :: r, S => if gd S then (match dg x ρ with
  | some ρ1 => (dt ρ1 S).nox.bind fun b S1 => if b = true then (de ρ1 S1).nox.bind fun y S2 => (lcL gd dg dt de ρ r S2).bind fun ys S3 => .ok (y :: ys) S3 else lcL gd dg dt de ρ r S1
  | none => .bad) else .bad
def dlLc (di : DI) (dg : DG) (dt : DT) (de : DE) (vs : List Nat) : DL := fun ρ S => (di ρ S).bind fun its S1 => if its.xs.length <= lim then lcL its.gd dg dt de (wipeE ρ vs) its.xs S1 else .bad
def dYes : DT := fun _ S => .ok true S
theorem st_yes : ST W K tYes dYes := fun ρ S c σ H Q hK k e h => h c H (Nxt.refl c H) k
theorem lcL_gd {gd : Store -> Bool} {dg : DG} {dt : DT} {de : DE} {ρ : Env} {xs : List AV} {S : Store} {g : List AV -> Store -> Prop} {x : AV -> Store -> Prop} (h : (lcL gd dg dt de ρ xs S).post g x) : gd S = true := by
 cases xs with
 | nil =>
  unfold lcL at h
  split at h
  ·assumption
  ·exact False.elim h
 | cons y r =>
  unfold lcL at h
  split at h
  ·assumption
  ·exact False.elim h
abbrev W0 : WX := fun _ _ _ _ => False
theorem sl_lc {wi : TI} {di : DI} {g : TG} {dg : DG} {tt : TT} {dt : DT} {te : TE} {de : DE} {vs : List Nat} (hi : SI W K wi di) (hg : SG K g dg) (hw : GW vs g) (hm : GM g) (ht : ST W0 K tt dt) (he : SE W0 K te de) : SEL W K (tLc wi g tt te vs) (dlLc di dg dt de vs) := by
 intro ρ S c σ H Q hK k e h
 refine hi ρ S c σ H _ hK k e (Res.post_mono (Res.post_bind.mp h) (fun its S1 h1 => ?_) fun _ _ z => z)
 intro c1 H1 J n1 k1 ⟨G, Y, w, hG, hY⟩ D hD
 have e1 := (e.nxt n1).wipe vs
 have hK1 := n1.K.trans hK
 split at h1
 next hl =>
  have hDn := k1.out hD
  let X : AV -> Store -> Prop := Fall c H (WE W σ)
  let P : Nat -> Hp -> Prop := fun i H' => ∃ c' S' acc accA, Nxt c1 H1 c' H' /\ c'.hid D /\ D ∉ c'.tr /\ Cor c' S' H' /\ EnvR c' H' (wipeE ρ vs) (L2.wipe σ vs) /\ H' D = some (.lst acc) /\ Rels c' H' accA acc /\ acc.length <= i /\
   (lcL its.gd dg dt de (wipeE ρ vs) (its.xs.drop i) S').post (fun ys S2 => ∀ c2 H0 us p, Nxt c H c2 H0 -> Cor c2 S2 H0 -> H0 p = none -> Rels c2 H0 (accA ++ ys) us -> Q (.ref p) (upd H0 p (.lst us))) X
  have ne1 : ∀ a, H1 a ≠ none -> a ≠ D := fun a h z => h (by rw [z]; exact hD)
  have nh : Nxt c1 H1 (c1.hide D) (upd H1 D (.lst [])) := by
   have n := Nxt.new (c := c1) (o := .lst []) hD
   exact ⟨rfl, rfl, ⟨fun _ h => .inr h, fun a h => h.elim (fun z => .inr (by rw [z]; exact hD)) .inl⟩, ⟨[], by simp [Co.hide], fun _ h => absurd h core_List_not_mem_nil_al⟩, n.keep, n.hkeep, n.tup, n.frz, n.live⟩
  refine lc_it w P ?_ ?_ ?_ ?_
  ·refine ⟨c1.hide D, S1, [], [], nh, .inl rfl, hDn.1, ?_, e1.nxt nh, upd_same, .nil, core_Nat_le_refl_al _, ?_⟩
   ·refine ⟨k1.len, k1.nd, fun a ha z => z.elim (fun z => hDn.1 (by rw [<- z]; exact ha)) (k1.apart a ha), fun a ha => ?_, fun i o a e1 e2 => ?_⟩
    ·rcases ha with z | z
     ·rw [z, upd_same]
      simp
     ·exact nh.live a (k1.hl a z)
    ·have r := k1.at_ i o a e1 e2
     exact r.nxt nh (upd_ne (ne1 a r.isThere))
   ·rw [List.drop_zero]
    exact h1
  ·rintro i H' hi ⟨c', S', acc, accA, n, hh, ht, k', e', hd, ra, hl, p⟩
   exact hG c' S' H' n.w k' (lcL_gd p)
  ·rintro i x H' H2 hi ⟨c', S', acc, accA, n, hh, htr, k', e', hd, ra, hl', p⟩ y
   have gS := lcL_gd p
   obtain ⟨z, hz, n2, k2, r2⟩ := hY i x H' H2 c' S' hi n.w k' gS y
   have hdr : its.xs.drop i = z :: its.xs.drop (i + 1) := by
    obtain ⟨hl2, hz'⟩ := core_List_getElem__eq_some_iff_al.mp hz
    rw [List.drop_eq_getElem_cons hl2, hz']
   rw [hdr] at p
   unfold lcL at p
   rw [if_pos gS] at p
   have hK' := n.K.trans hK1
   cases q : dg z (wipeE ρ vs) with
   | none =>
    rw [q] at p
    exact False.elim p
   | some ρ1 =>
    rw [q] at p
    simp only at p
    refine hm _ _ _ _ _ (hw _ _ _ _ (hg z x (wipeE ρ vs) ρ1 S' c' _ H2 (fun σ2 H3 => ∃ c3, Nxt c' H2 c3 H3 /\ Cor c3 S' H3 /\ EnvR c3 H3 ρ1 σ2) hK' k2 (e'.nxt n2) r2 q fun c3 H3 σ3 n3 k3 e3 => ⟨c3, n3, k3, e3⟩)) ?_
    rintro σ2 H3 ⟨hwp, c3, n3, k3, e3⟩
    refine ⟨hwp.trans wipe_wipe, ?_⟩
    have n23 := n2.trans n3
    have hK3 := n23.K.trans hK'
    refine ht ρ1 S' c3 σ2 H3 _ hK3 k3 e3 (Res.post_mono (nox_post (Res.post_bind.mp p)) (fun b S3 g => ?_) fun _ _ z => z)
    intro c4 H4 n4 k4
    have n24 := n23.trans n4
    have hd4 : ∀ {c5 H5}, Nxt c' H' c5 H5 -> H5 D = some (.lst acc) := fun n5 => n5.hkeep _ _ hh hd
    have base : ∀ {c5 H5}, Nxt c' H' c5 H5 -> c5.hid D /\ D ∉ c5.tr := fun {c5 H5} n5 => ⟨n5.hid.1 D hh, fun w => by
     obtain ⟨l, el, hl3⟩ := n5.tr
     rw [el] at w
     rcases core_List_mem_append_al.mp w with w | w
     ·exact htr w
     ·have := hl3 D w
      rw [hd] at this
      cases this⟩
    cases b with
    | false =>
     exact ⟨c4, S3, acc, accA, n.trans n24, (base n24).1, (base n24).2, k4, e'.nxt n24, hd4 n24, ra.nxt n24, by omega, g⟩
    | true =>
     have e4 := e3.nxt n4
     refine he ρ1 S3 c4 σ2 H4 _ (n4.K.trans hK3) k4 e4 (Res.post_mono (nox_post (Res.post_bind.mp g)) (fun w S4 g2 => ?_) fun _ _ z => z)
     intro c5 H5 v5 n5 k5 r5
     have n25 := n24.trans n5
     have hD5 := hd4 n25
     refine ⟨acc, hD5, ?_, ?_⟩
     ·have : acc.length < lim := by omega
      rw [sizeLine_eq]
      unfold lim at this
      omega
     ·obtain ⟨b1, b2⟩ := base n25
      have upk : ∀ a, a ≠ D -> upd H5 D (.lst (acc ++ [v5])) a = H5 a := fun a ha => upd_ne ha
      have sm : Same2 c5 c5 D H5 (upd H5 D (.lst (acc ++ [v5]))) := ⟨rfl, rfl, rfl, fun a _ ho => ⟨fun z => ho.2 (by rw [z]; exact b1), ho⟩, ⟨upk, fun xs z => (by rw [hD5] at z; cases z), fun o u z => (by rw [hD5] at z; cases z)⟩⟩
      have nb := n.trans n25
      have nu : Nxt c1 H1 c5 (upd H5 D (.lst (acc ++ [v5]))) := by
       have ou : ∀ a u, H1 a = some u -> upd H5 D (.lst (acc ++ [v5])) a = H5 a := fun a u z => upk a (ne1 a (by rw [z]; simp))
       refine ⟨nb.K, nb.ex, nb.hid, nb.tr, fun a u ha z => by rw [ou a u z]; exact nb.keep a u ha z, fun a u ha z => by rw [ou a u z]; exact nb.hkeep a u ha z, fun a u z => by rw [ou a _ z]; exact nb.tup a u z, fun a o u z => by rw [ou a _ z]; exact nb.frz a o u z, fun a z => ?_⟩
       rw [upk a (ne1 a z)]
       exact nb.live a z
      refine ⟨c5, S4, acc ++ [v5], accA ++ [w], nu, b1, b2, ?_, (e'.nxt n25).hid sm, upd_same, ((ra.nxt n25).app (.one r5)).hid sm, by rw [core_List_length_append_al, core_List_length_singleton_al]; omega, ?_⟩
      ·refine k5.hid sm (fun a ha z => b2 (by rw [<- z]; exact ha)) k5.apart fun a ha => ?_
       by_cases z : a = D
       ·rw [z, upd_same]
        simp
       ·rw [upk a z]
        exact k5.hl a ha
      ·refine Res.post_mono (Res.post_bind.mp g2) (fun ys S6 g3 => ?_) fun _ _ z => z
       intro c2 H0 us p m1 m2 m3 m4
       rw [core_List_append_assoc_al] at m4
       exact g3 c2 H0 us p m1 m2 m3 m4
  ·rintro H' ⟨c', S', acc, accA, n, hh, htr, k', e', hd, ra, hl', p⟩
   rw [List.drop_length] at p
   unfold lcL at p
   split at p
   ·have p : ∀ c2 H0 us p, Nxt c H c2 H0 -> Cor c2 S' H0 -> H0 p = none -> Rels c2 H0 (accA ++ []) us -> Q (.ref p) (upd H0 p (.lst us)) := p
    let H0 : Hp := fun a => if a = D then none else H' a
    have h0 : ∀ a, a ≠ D -> H0 a = H' a := fun a ha => if_neg ha
    have h0D : H0 D = none := if_pos rfl
    have eH : upd H0 D (.lst acc) = H' := by
     funext a
     by_cases z : a = D
     ·rw [z, upd_same, hd]
     ·rw [upd_ne z, h0 a z]
    have sm : Same2 c' (c'.unhide D) D H' H0 := ⟨rfl, rfl, rfl, fun a _ ho => ⟨fun z => ho.2 (by rw [z]; exact hh), ho.1, fun z => ho.2 z.2⟩, ⟨h0, fun xs z => (by rw [hd] at z; cases z), fun o u z => (by rw [hd] at z; cases z)⟩⟩
    have nu : Nxt c1 H1 (c'.unhide D) H0 := by
     have ou : ∀ a u, H1 a = some u -> H0 a = H' a := fun a u z => h0 a (ne1 a (by rw [z]; simp))
     refine ⟨n.K, n.ex, ⟨fun a z => ⟨fun w => hDn.2 (by rw [<- w]; exact z), n.hid.1 a z⟩, fun a z => n.hid.2 a z.2⟩, n.tr, fun a u ha z => by rw [ou a u z]; exact n.keep a u ha z, fun a u ha z => by rw [ou a u z]; exact n.hkeep a u ha z, fun a u z => by rw [ou a _ z]; exact n.tup a u z, fun a o u z => by rw [ou a _ z]; exact n.frz a o u z, fun a z => ?_⟩
     rw [h0 a (ne1 a z)]
     exact n.live a z
    have r := p (c'.unhide D) H0 acc D (n1.trans nu) (k'.hid sm (fun a ha z => htr (by rw [<- z]; exact ha)) (fun a ha z => k'.apart a ha z.2) fun a ha => by rw [h0 a ha.1]; exact k'.hl a ha.2) h0D (by rw [core_List_append_nil_al]; exact ra.hid sm)
    rw [eH] at r
    exact r
   ·exact False.elim p
 next => exact False.elim h1
end
def iAny (K : PySem.W.Frag) (tl : TE) : TI := fun σ H R => tl σ H fun x H1 => (∃ a xs, x = .ref a /\ SqL K H1 a xs /\ R (Itl K a) H1) ∨ (∃ a xs, x = .ref a /\ SqT K H1 a xs /\ R (Itt K a) H1) ∨ ∃ z, x = .str z /\ R (L2.Its z) H1
theorem pi_any {X : Cx} {tg l : Expr} {tl : TE} (hl : PE X l tl) : PI X tg l (iAny X.K tl) := by
 refine ⟨fun pins s σ H R I h => thn (hl.run pins s σ H _ I h) fun v s1 hh => ?_⟩
 obtain ⟨x, H1, J, rx, q⟩ := hh
 rcases q with ⟨a, xs, rfl, hs, q⟩ | ⟨a, xs, rfl, hs, q⟩ | ⟨z, rfl, q⟩
 ·obtain rfl : v = Value.ref a := rx
  obtain ⟨us, _, pl, _⟩ := J.list hs
  exact wpAny_pyIter_list pl.isList (pi_one (tk := s1.toks) J _ (turn_list a _) ⟨_, Heap.get?_push_size _ rfl, rfl, rfl⟩ q)
 ·obtain rfl : v = Value.ref a := rx
  obtain ⟨us, _, pt, _⟩ := J.tuple hs
  exact wpAny_pyIter_tuple (show s1.heap.IsTuple a us.toArray from pt) (pi_one (tk := s1.toks) J _ (turn_tuple a _) ⟨_, Heap.get?_push_size _ rfl, rfl, rfl⟩ q)
 ·obtain ⟨t, rfl⟩ := rx
  cases hz : z.cps.all (· < 128) with
  | false => exact wpAny_pyIter_wide hz (pi_one (tk := s1.toks) J _ (turn_str _ z t "str_iterator" (.inr rfl)) ⟨_, Heap.get?_push_size _ rfl, rfl, rfl⟩ q)
  | true => exact wpAny_pyIter_ascii hz (pi_one (tk := s1.toks) J _ (turn_str _ z t "str_ascii_iterator" (.inl rfl)) ⟨_, Heap.get?_push_size _ rfl, rfl, rfl⟩ q)
section
variable {W : WX} {K : PySem.W.Frag} {c c' : Co} {S : Store} {H H' : Hp} {x y z : AV} {u v : V} {xs ys : List AV} {us vs : List V} {te ta : TE} {da de : DE} {tA : TA} {dA : DA}
def signs (z : Str) : List AV := z.cps.toList.map fun n => .str ⟨#[n]⟩
def itsOf (S : Store) : AV -> Option Wk
 | .str z => some ⟨signs z, fun _ => true⟩
 | .ref i => (stL S i).map fun xs => ⟨xs, fun S => eqL S i xs⟩
 | .tup _ xs => some ⟨xs, fun _ => true⟩
 | .lst xs => some ⟨xs, fun _ => true⟩
 | _ => none
def diAny (da : DE) : DI := fun ρ S => (da ρ S).bind fun x S1 => ofO (itsOf S1 x) S1
theorem itok_at {c1 : Co} {H1 : Hp} {xs : List AV} {vs : List V} {gd : Store -> Bool} {J : It} {G : Hp -> Prop} (w : Walk J vs.length G (YAt vs)) (r : Rels c1 H1 xs vs) (hG : ∀ c S H, Nxw c1 H1 c H -> Cor c S H -> gd S = true -> G H)
     : ItOk c1 H1 ⟨xs, gd⟩ J := by
  refine ⟨G, YAt vs, by rw [show (Wk.mk xs gd).xs.length = vs.length from r.len]; exact w, hG, fun i x H H' c S hi n k g y => ?_⟩
  obtain ⟨e, hx⟩ := y
  subst e
  obtain ⟨z, hz, rz⟩ := r.at' hx
  exact ⟨z, hz, Nxt.refl c _, k, rz.nxw n⟩
theorem si_any (ha : SE W K ta da) : SI W K (iAny K ta) (diAny da) := by
 intro ρ S c σ H R hK k e h
 refine ha ρ S c σ H _ hK k e (Res.post_mono (Res.post_bind.mp h) (fun x S1 h1 => ?_) fun _ _ z => z)
 intro c1 H1 u n1 k1 r1
 obtain ⟨its, hi, g⟩ := ofO_post h1
 have hK1 := n1.K.trans hK
 cases x with
 | str z =>
  cases hi
  obtain ⟨e1, s1⟩ := r1.s
  refine .inr (.inr ⟨z, e1, g c1 H1 _ n1 k1 ?_⟩)
  have hl : (signs z).length = z.cps.size := by
   unfold signs
   rw [core_List_length_map_al, Array.length_toList]
  refine ⟨fun _ => True, (fun i H v H' => H' = H /\ ∃ c, z.cps[i]? = some c /\ v = .str ⟨#[c]⟩), ?_, fun _ _ _ _ _ _ => trivial, fun i x H H' c S hi n k _ y => ?_⟩
  ·rw [hl]
   exact walk_str
  ·obtain ⟨rfl, m, hm, rfl⟩ := y
   have hm' : z.cps.toList[i]? = some m := by simpa using hm
   refine ⟨.str ⟨#[m]⟩, ?_, Nxt.refl c _, k, .str (s1.sign (core_List_mem_of_getElem__al hm'))⟩
   show (signs z)[i]? = _
   unfold signs
   rw [core_List_getElem__map_al, hm']
   rfl
 | ref i =>
  have hi : ((stL S1 i).map fun xs => (⟨xs, fun S => eqL S i xs⟩ : Wk)) = some its := hi
  obtain ⟨xs, h2, h3⟩ := core_Option_map_eq_some_iff_al.mp hi
  subst h3
  obtain ⟨a, rfl, ht, vs, h4, rs⟩ := k1.obj r1 (stL_eq.mp h2)
  refine .inl ⟨a, vs, rfl, sq_of h4, g c1 H1 _ n1 k1 ?_⟩
  have hn : ∀ c S H, Nxw c1 H1 c H -> Cor c S H -> eqL S i xs = true -> ∃ us, H a = some (.lst us) /\ Rels c H xs us := fun c S H n k hs => by
   obtain ⟨us, h5, h6⟩ := k.at_ i _ a (stL_eq.mp (eqL_iff.mp hs)) (n.at ht)
   exact ⟨us, h5, h6⟩
  refine ⟨fun H => ∃ us, H a = some (.lst us) /\ us.length = xs.length, fun i H x H' => H' = H /\ ∃ us, H a = some (.lst us) /\ us[i]? = some x, ⟨fun j H hj q => ?_, fun H q => ?_, fun j H x H' hj q y => ?_⟩, fun c S H n k hs => ?_, fun j x H H' c S hj n k hs y => ?_⟩
  ·obtain ⟨us, q1, q2⟩ := q
   exact ⟨us, us[j]'(by rw [q2]; exact hj), sq_of q1, core_List_getElem__eq_getElem_al _⟩
  ·obtain ⟨us, q1, q2⟩ := q
   exact ⟨us, sq_of q1, by rw [q2]; exact core_Nat_le_refl_al _⟩
  ·obtain ⟨us, q1, q2⟩ := q
   exact ⟨y.1, us, q1, y.2 us (sq_of q1)⟩
  ·obtain ⟨us, h5, h6⟩ := hn c S H n k hs
   exact ⟨us, h5, h6.len.symm⟩
  ·obtain ⟨e1, us, h5, h7⟩ := y
   subst e1
   obtain ⟨us', h5', h6⟩ := hn c S _ n k hs
   rw [h5] at h5'
   cases h5'
   obtain ⟨z, hz, rz⟩ := h6.at' h7
   exact ⟨z, hz, Nxt.refl c _, k, rz⟩
 | tup p xs =>
  cases hi
  cases r1 with
  | @tup a _ _ vs hs _ rs =>
   rw [hK1] at hs
   exact .inr (.inl ⟨a, vs, rfl, hs, g c1 H1 _ n1 k1 (itok_at (walk_tup (K := K)) rs fun c S H n _ _ => by
    have := n.sqT (by rw [hK1]; exact hs)
    rw [n.K, hK1] at this
    exact this)⟩)
 | lst xs =>
  cases hi
  cases r1 with
  | @lst a _ vs hs ho rs => exact .inl ⟨a, vs, rfl, sq_of hs, g c1 H1 _ n1 k1 (itok_at (walk_list (K := K)) rs fun c S H n _ _ => sq_of (n.keep _ _ ho hs))⟩
 | _ => cases hi
def rngB (i : Int) : Bool := decide (-(2 ^ 62) <= i) && decide (i < 2 ^ 62)
def rngL (lo : Int) (n : Nat) : List AV := (List.range n).map fun (j : Nat) => .int (lo + (j : Int))
theorem rngL_len {lo : Int} {n : Nat} : (rngL lo n).length = n := by
 unfold rngL
 simp
theorem rngL_at {lo : Int} {n i : Nat} (h : i < n) : (rngL lo n)[i]? = some (.int (lo + i)) := by
 unfold rngL
 rw [core_List_getElem__map_al, List.getElem?_range h]
 rfl
def itsR1 (xs : List AV) : Option Wk := match xs with
 | [.int j] => if rngB j then some ⟨rngL 0 j.toNat, fun _ => true⟩ else none
 | _ => none
def diRng1 (dA : DA) : DI := fun ρ S => (dA ρ S).bind fun xs S1 => ofO (itsR1 xs) S1
theorem itok_r {c1 : Co} {H1 : Hp} {lo : Int} {n : Nat} : ItOk c1 H1 ⟨rngL lo n, fun _ => true⟩ (Itr lo n) := by
 refine ⟨fun _ => True, (YFn fun i => .int (lo + i)), by rw [show (Wk.mk (rngL lo n) fun _ => true).xs.length = n from rngL_len]; exact walk_range, fun _ _ _ _ _ _ => trivial, fun i x H H' c S hi m k _ y => ?_⟩
 obtain ⟨e, rfl⟩ := y
 subst e
 have hi' : i < n := by
  have := hi
  rw [show (Wk.mk (rngL lo n) fun _ => true).xs.length = n from rngL_len] at this
  exact this
 exact ⟨_, rngL_at hi', Nxt.refl c _, k, .int _⟩
theorem one_i {i : Int} {us : List V} (rs : Rels c H [.int i] us) : us = [.int i] := by
 cases rs with
 | cons r rs =>
  cases rs
  rw [r.i]
theorem si_rng1 (ha : SA W K tA dA) : SI W K (iRng1 tA) (diRng1 dA) := by
 intro ρ S c σ H R hK k e h
 refine ha ρ S c σ H _ hK k e (Res.post_mono (Res.post_bind.mp h) (fun xs S1 h1 => ?_) fun _ _ z => z)
 intro c1 H1 us n1 k1 rs
 obtain ⟨its, hi, g⟩ := ofO_post h1
 unfold itsR1 at hi
 split at hi
 ·split at hi
  ·rename_i hb
   cases hi
   obtain ⟨b1, b2⟩ := core_Bool_and_eq_true_iff_al.mp hb
   exact ⟨_, one_i rs, of_decide_eq_true b1, of_decide_eq_true b2, g c1 H1 _ n1 k1 itok_r⟩
  ·cases hi
 ·cases hi
def iEnA (K : PySem.W.Frag) (ta : TA) : TI := fun σ H R => ta σ H fun vs H1 => ∃ a xs, vs = [.ref a] /\ ((SqL K H1 a xs /\ R (Ite K a) H1) ∨ (SqT K H1 a xs /\ R (IteT K a) H1))
theorem pi_enA {X : Cx} {e : Expr} {ta : TA} {p pos tpos : Pos} {elts : List Expr} {kk : Nat} (hg : Gl X "enumerate") (hm : X.mg "enumerate" = none) (ha : PA X [e] ta)
  (hs : starEach [e] X.env = [(false, eval e X.env)] := by rfl) : PI X (.Tuple elts kk tpos) (.Call (.Name "enumerate" p) [e] [] pos) (iEnA X.K ta) := by
 refine ⟨fun pins s σ H R I h => Call_ (ld_blt I hg hm boot_enumerate (PyProof.Rows.callWith_type1 (thn (ha.run pos pins s σ H _ I h) fun us s1 hh => ?_) hs rfl) (by decide) (by decide))⟩
 obtain ⟨vs, H1, J, rr, a, xs, rfl, q⟩ := hh
 have fp : ∀ b ∈ [s1.heap.objs.size + 1, s1.heap.objs.size], FpOk X pins H1 b := fun b hb => by
  have hle : s1.heap.objs.size <= b := by
   simp only [core_List_mem_cons_al, core_List_not_mem_nil_al, or_false] at hb
   omega
  exact J.fpOk hle (J.hok.fresh hle)
 cases rr with
 | @cons _ w _ _ ra rt =>
  cases rt
  obtain rfl : w = Value.ref a := ra
  rcases q with ⟨hs, q⟩ | ⟨hs, q⟩
  ·obtain ⟨us, _, pl, _⟩ := J.list hs
   exact call_enumerate_list pl.isList fun h' he hit hz hk => wpAny_pyIter_enum he ⟨_, _, _, Ite X.K a, H1, rfl, J.kept (t' := s1.toks) hk, turn_enum a (s1.heap.objs.size + 1) s1.heap.objs.size, ⟨⟨Value.none, he⟩, hit, Nat.succ_ne_self _⟩, fp, q⟩
  ·obtain ⟨us, _, pt, _⟩ := J.tuple hs
   have hT : s1.heap.IsTuple a us.toArray := pt
   exact call_enum_tuple hT fun h' he hit hz hk => wpAny_pyIter_enum he ⟨_, _, _, IteT X.K a, H1, rfl, J.kept (t' := s1.toks) hk, turn_enumT a (s1.heap.objs.size + 1) s1.heap.objs.size, ⟨⟨Value.none, he⟩, hit, Nat.succ_ne_self _⟩, fp, q⟩
def numd : Nat -> List AV -> List AV
 | _, [] => []
 | n, x :: r => .tup false [.int n, x] :: numd (n + 1) r
theorem numd_at : ∀ {xs : List AV} {n i : Nat} {x : AV}, xs[i]? = some x -> (numd n xs)[i]? = some (.tup false [.int ((n + i : Nat) : Int), x])
 | [], _, _, _, h => by simp at h
 | y :: r, n, 0, x, h => by
  cases h
  rfl
 | y :: r, n, i + 1, x, h => by
  have h' : r[i]? = some x := by simpa using h
  have := numd_at (n := n + 1) h'
  show (numd (n + 1) r)[i]? = _
  rw [this, Nat.add_assoc, Nat.add_comm 1 i]
theorem numd_len : ∀ {xs : List AV} {n : Nat}, (numd n xs).length = xs.length
 | [], _ => rfl
 | _ :: _, _ => congrArg (· + 1) numd_len
def itsE (S : Store) (xs : List AV) : Option Wk := match xs with
 | [.ref i] => (stL S i).map fun xs => ⟨numd 0 xs, fun S => eqL S i xs⟩
 | [.lst xs] => some ⟨numd 0 xs, fun _ => true⟩
 | [.tup _ xs] => some ⟨numd 0 xs, fun _ => true⟩
 | _ => none
def diEn (dA : DA) : DI := fun ρ S => (dA ρ S).bind fun xs S1 => ofO (itsE S1 xs) S1
theorem pair_ok {v : V} {f g : Nat -> Option V} {i : Nat} {x y : AV} (k : Cor c S H) (h : YPair f g i H v H') (hx : ∀ w, f i = some w -> Rel c H x w) (hy : ∀ w, g i = some w -> Rel c H y w) : Nxt c H c H' /\ Cor c S H' /\ Rel c H' (.tup false [x, y]) v := by
 obtain ⟨T, a, b, rfl, hT, rfl, h1, h2⟩ := h
 exact ⟨Nxt.new hT, k.new hT, new_tup hT (.cons (hx a h1) (.cons (hy b h2) .nil))⟩
theorem si_en (ha : SA W K tA dA) : SI W K (iEnA K tA) (diEn dA) := by
 intro ρ S c σ H R hK k e h
 refine ha ρ S c σ H _ hK k e (Res.post_mono (Res.post_bind.mp h) (fun xs S1 h1 => ?_) fun _ _ z => z)
 intro c1 H1 us n1 k1 rs
 obtain ⟨its, hi, g⟩ := ofO_post h1
 have hK1 := n1.K.trans hK
 cases rs with
 | nil => cases hi
 | @cons x w r1 r2 rx rt =>
  cases rt with
  | cons _ _ => cases x <;> cases hi
  | nil =>
   cases x with
   | ref i =>
    have hi : ((stL S1 i).map fun xs => (⟨numd 0 xs, fun S => eqL S i xs⟩ : Wk)) = some its := hi
    obtain ⟨xs, h2, h3⟩ := core_Option_map_eq_some_iff_al.mp hi
    subst h3
    obtain ⟨a, rfl, ht, vs, h4, rs⟩ := k1.obj rx (stL_eq.mp h2)
    refine ⟨a, vs, rfl, .inl ⟨sq_of h4, g c1 H1 _ n1 k1 ?_⟩⟩
    have hn : ∀ c S H, Nxw c1 H1 c H -> Cor c S H -> eqL S i xs = true -> ∃ us, H a = some (.lst us) /\ Rels c H xs us := fun c S H n k hs => by
     obtain ⟨us, h5, h6⟩ := k.at_ i _ a (stL_eq.mp (eqL_iff.mp hs)) (n.at ht)
     exact ⟨us, h5, h6⟩
    refine ⟨fun H => ∃ us, H a = some (.lst us) /\ us.length = xs.length, fun i H x H' => ∃ us, H a = some (.lst us) /\ YPair (fun i => some (.int (i : Nat))) (fun i => us[i]?) i H x H', ⟨fun j H hj q => ?_, fun H q => ?_, fun j H x H' hj q y => ?_⟩, fun c S H n k hs => ?_, fun j x H H' c S hj n k hs y => ?_⟩
    ·obtain ⟨us, q1, q2⟩ := q
     exact (walk_enum (K := K) (a := a) (xs := us)).goes j H (by rw [q2, <- numd_len (n := 0)]; exact hj) (sq_of q1)
    ·obtain ⟨us, q1, q2⟩ := q
     have := (walk_enum (K := K) (a := a) (xs := us)).stops H (sq_of q1)
     rw [q2, <- numd_len (n := 0)] at this
     exact this
    ·obtain ⟨us, q1, q2⟩ := q
     exact ⟨us, q1, (walk_enum (K := K) (a := a) (xs := us)).yields j H x H' (by rw [q2, <- numd_len (n := 0)]; exact hj) (sq_of q1) y⟩
    ·obtain ⟨us, h5, h6⟩ := hn c S H n k hs
     exact ⟨us, h5, h6.len.symm⟩
    ·obtain ⟨us, h5, y⟩ := y
     obtain ⟨us', h5', h6⟩ := hn c S _ n k hs
     rw [h5] at h5'
     cases h5'
     have hj' : j < xs.length := by rw [<- numd_len (n := 0)]; exact hj
     have hx := core_List_getElem__eq_getElem_al hj'
     obtain ⟨m1, m2, m3⟩ := pair_ok (x := .int ((0 + j : Nat) : Int)) (y := xs[j]) k y (fun w hw => by cases hw; rw [Nat.zero_add]; exact .int _) (fun w hw => by
      obtain ⟨z, hz, rz⟩ := h6.at' hw
      rw [hx] at hz
      cases hz
      exact rz)
     exact ⟨_, numd_at hx, m1, m2, m3⟩
   | tup p xs =>
    cases hi
    cases rx with
    | @tup a _ _ vs hs _ rs =>
     rw [hK1] at hs
     refine ⟨a, vs, rfl, .inr ⟨hs, g c1 H1 _ n1 k1 ⟨fun H => SqT K H a vs, YPair (fun i => some (.int (i : Nat))) (fun i => vs[i]?), ?_, fun c S H n _ _ => ?_, fun j x H H' c S hj n k _ y => ?_⟩⟩⟩
     ·rw [show (Wk.mk (numd 0 xs) fun _ => true).xs.length = vs.length from numd_len.trans rs.len]
      exact walk_enumT
     ·have := n.sqT (by rw [hK1]; exact hs)
      rw [n.K, hK1] at this
      exact this
     ·have hj' : j < xs.length := by rw [<- numd_len (n := 0)]; exact hj
      have hx := core_List_getElem__eq_getElem_al hj'
      obtain ⟨m1, m2, m3⟩ := pair_ok (x := .int ((0 + j : Nat) : Int)) (y := xs[j]) k y (fun w hw => by cases hw; rw [Nat.zero_add]; exact .int _) (fun w hw => by
       obtain ⟨z, hz, rz⟩ := (rs.nxw n).at' hw
       rw [hx] at hz
       cases hz
       exact rz)
      exact ⟨_, numd_at hx, m1, m2, m3⟩
   | lst xs =>
    cases hi
    cases rx with
    | @lst a _ vs hs ho rs =>
     refine ⟨a, vs, rfl, .inl ⟨sq_of hs, g c1 H1 _ n1 k1 ⟨fun H => SqL K H a vs, YPair (fun i => some (.int (i : Nat))) (fun i => vs[i]?), ?_, fun c S H n _ _ => ?_, fun j x H H' c S hj n k _ y => ?_⟩⟩⟩
     ·rw [show (Wk.mk (numd 0 xs) fun _ => true).xs.length = vs.length from numd_len.trans rs.len]
      exact walk_enum
     ·exact sq_of (n.keep _ _ ho hs)
     ·have hj' : j < xs.length := by rw [<- numd_len (n := 0)]; exact hj
      have hx := core_List_getElem__eq_getElem_al hj'
      obtain ⟨m1, m2, m3⟩ := pair_ok (x := .int ((0 + j : Nat) : Int)) (y := xs[j]) k y (fun w hw => by cases hw; rw [Nat.zero_add]; exact .int _) (fun w hw => by
       obtain ⟨z, hz, rz⟩ := (rs.nxw n).at' hw
       rw [hx] at hz
       cases hz
       exact rz)
      exact ⟨_, numd_at hx, m1, m2, m3⟩
   | _ => cases hi
end
def SqB (K : PySem.W.Frag) (H : Hp) (b : Bool) (a : Addr) (xs : List V) : Prop := if b then SqL K H a xs else SqT K H a xs
def ObB (b : Bool) (h : Heap) (a : Addr) (us : Array Value) : Prop := if b then h.IsList a us else h.IsTuple a us
def IrB (b : Bool) (h : Heap) (it a : Addr) (i : Nat) : Prop := if b then h.IsListIter it a i else h.IsTupleIter it a i
theorem sqB_ob {X : Cx} {pins : List (Addr × Obj)} {σ : L2.St} {H : Hp} {s : Shared} {b : Bool} {a : Addr} {xs : List V} (I : Inv X pins σ H s) (h : SqB X.K H b a xs) : ∃ us : List Value, Vals xs us /\ ObB b s.heap a us.toArray := by
 cases b with
 | true =>
  obtain ⟨us, r, p, _⟩ := I.list h
  exact ⟨us, r, p.isList⟩
 | false =>
  obtain ⟨us, r, p, _⟩ := I.tuple h
  exact ⟨us, r, p⟩
theorem drawsB {prog : Program} {w : World} {A : Around} (hh : A.handled = none) (b : Bool) (it a : Addr) (ne : a ≠ it) (us : Array Value) :
  Draws prog w A it [it, a] us.size (fun i v => us[i]? = some v) (fun i h => IrB b h it a i /\ ObB b h a us) := by
 cases b with
 | true => exact Draws.list hh it a ne us
 | false => exact Draws.tuple hh it a ne us
theorem beginsB (b : Bool) (a : Addr) (us : Array Value) : ∃ o, Begins (.ref a) o (fun h => ObB b h a us) /\ (∀ (h : Heap) (it : Addr), h.get? it = some o -> IrB b h it a 0) /\ ∀ v, o.data ≠ .cell v := by
 cases b with
 | true => exact ⟨_, begins_list a us, fun h it e => ⟨_, e, rfl, rfl⟩, fun v q => nomatch q⟩
 | false => exact ⟨_, begins_tuple a us, fun h it e => ⟨_, e, rfl, rfl⟩, fun v q => nomatch q⟩
theorem irB_at {b : Bool} {h h' : Heap} {it a : Addr} {i : Nat} (p : IrB b h it a i) (k : ∀ o, h.get? it = some o -> h'.get? it = some o) : IrB b h' it a i := by
 cases b with
 | true => exact (show h.IsListIter it a i from p).at k
 | false => exact (show h.IsTupleIter it a i from p).at k
theorem irB_ob {b : Bool} {h : Heap} {it a : Addr} {i : Nat} (p : IrB b h it a i) : ∃ o, h.get? it = some o /\ (∀ v, o.data ≠ .cell v) /\ (o.cls = .type "list_iterator" ∨ o.cls = .type "tuple_iterator") := by
 cases b with
 | true =>
  obtain ⟨o, e, hc, hd⟩ := (show h.IsListIter it a i from p)
  exact ⟨o, e, fun v q => (by rw [hd] at q; cases q), .inl hc⟩
 | false =>
  obtain ⟨o, e, hc, hd⟩ := (show h.IsTupleIter it a i from p)
  exact ⟨o, e, fun v q => (by rw [hd] at q; cases q), .inr hc⟩
theorem obB_ob {b : Bool} {h : Heap} {a : Addr} {us : Array Value} (p : ObB b h a us) : ∃ o n, h.get? a = some o /\ (o.cls = .type "list" ∨ o.cls = .type "tuple") /\ o.data = .seq us n := by
 cases b with
 | true =>
  obtain ⟨o, e, hc, n, hd⟩ := (show h.IsList a us from p)
  exact ⟨o, n, e, .inl hc, hd⟩
 | false =>
  obtain ⟨o, e, hc, n, hd⟩ := (show h.IsTuple a us from p)
  exact ⟨o, n, e, .inr hc, hd⟩
def ItzB (K : PySem.W.Frag) (b1 b2 : Bool) (a1 a2 : Addr) : It where
 go := fun i H => ∃ (xs ys : List V) (x y : V), SqB K H b1 a1 xs /\ SqB K H b2 a2 ys /\ xs[i]? = some x /\ ys[i]? = some y
 yld := fun i H v H' => ∃ T x y, v = .ref T /\ H T = none /\ H' = upd H T (.tup [x, y]) /\ (∀ xs, SqB K H b1 a1 xs -> xs[i]? = some x) /\ ∀ ys, SqB K H b2 a2 ys -> ys[i]? = some y
 stop := fun i H => ∃ xs ys : List V, SqB K H b1 a1 xs /\ SqB K H b2 a2 ys /\ i = min xs.length ys.length
theorem sqB_inj {X : Cx} {pins : List (Addr × Obj)} {σ : L2.St} {H : Hp} {s : Shared} {b : Bool} {a : Addr} {xs ys : List V} (I : Inv X pins σ H s) (h1 : SqB X.K H b a xs) (h2 : SqB X.K H b a ys) : xs = ys := by
 cases b with
 | true => exact I.list_inj h1 h2
 | false => exact I.tuple_inj h1 h2
theorem sepB {n a1 a2 : Nat} (l1 : a1 < n) (l2 : a2 < n) : ZipSep2 (n + 4) (n + 2) (n + 3) n (n + 1) [n, a1] [n + 1, a2] := by
 constructor
 all_goals try simp
 all_goals first
  | exact Nat.ne_of_lt (by omega)
  | exact Nat.ne_of_gt (by omega)
theorem turn_zipB {P : Program} {w : World} {K : PySem.W.Frag} {elts : List Expr} {kk : Nat} {tpos : Pos} {b1 b2 : Bool} {a1 a2 n : Nat} (l1 : a1 < n) (l2 : a2 < n) :
  Turn P w K (.Tuple elts kk tpos) (ItzB K b1 b2 a1 a2) [n + 4, n + 2, n + 3, n, n + 1] (n + 4) (fun i h => IsZip h (n + 4) (n + 2) (n + 3) .none /\ IsTupOf2 h (n + 2) (.ref n) (.ref (n + 1)) /\ (∃ x y, IsTupOf2 h (n + 3) x y) /\ IrB b1 h n a1 i /\ IrB b2 h (n + 1) a2 i) where
 mem := core_List_mem_cons_self_al
 obj := fun i h st c hc => by
  obtain ⟨s1, s2, ⟨x, y, s3⟩, s4, s5⟩ := st
  simp only [core_List_mem_cons_al, core_List_not_mem_nil_al, or_false] at hc
  rcases hc with rfl | rfl | rfl | rfl | rfl
  ·exact ⟨_, s1, fun v q => nomatch q⟩
  ·exact ⟨_, s2, fun v q => nomatch q⟩
  ·exact ⟨_, s3, fun v q => nomatch q⟩
  ·obtain ⟨o, e, d, _⟩ := irB_ob s4
   exact ⟨o, e, d⟩
  ·obtain ⟨o, e, d, _⟩ := irB_ob s5
   exact ⟨o, e, d⟩
 keep := fun i h h' st k => by
  obtain ⟨s1, s2, ⟨x, y, s3⟩, s4, s5⟩ := st
  exact ⟨k (n + 4) (by simp) _ s1, k (n + 2) (by simp) _ s2, ⟨x, y, k (n + 3) (by simp) _ s3⟩, irB_at s4 (k n (by simp)), irB_at s5 (k (n + 1) (by simp))⟩
 item := fun X hP hw hK hc i pins s σ H E I hf st hg => by
  subst hP hw hK
  obtain ⟨s1, s2, ⟨x0, y0, s3⟩, s4, s5⟩ := st
  obtain ⟨xs, ys, x, y, q1, q2, hx, hy⟩ := hg
  obtain ⟨us, r1, o1⟩ := sqB_ob I q1
  obtain ⟨ws, r2, o2⟩ := sqB_ob I q2
  obtain ⟨u, hu, ru⟩ := r1.get hx
  obtain ⟨v, hv, rv⟩ := r2.get hy
  have z4 : n + 4 < s.heap.objs.size := Heap.lt_size s1
  have D1 := drawsB (prog := X.prog) (w := X.w) (A := X.A.in1) (I.ok.hd hc) b1 n a1 (Nat.ne_of_lt l1) us.toArray
  have D2 := drawsB (prog := X.prog) (w := X.w) (A := X.A.in1) (I.ok.hd hc) b2 (n + 1) a2 (Nat.ne_of_lt (by omega)) ws.toArray
  have hl1 : i < us.toArray.size := by simpa using (core_List_getElem__eq_some_iff_al.mp hu).1
  have hl2 : i < ws.toArray.size := by simpa using (core_List_getElem__eq_some_iff_al.mp hv).1
  refine wpAny_pyNext_zipD2_item (sepB l1 l2) D1 D2 s1 s2 s3 ⟨s4, o1⟩ ⟨s5, o2⟩ hl1 hl2 fun x1 x2 h' tk p1 p2 z' TO' t1 t2 hT hz hk => ?_
  have e1 : x1 = u := by
   have : us[i]? = some x1 := by simpa using p1
   rw [hu] at this
   exact (Option.some.inj this).symm
  have e2 : x2 = v := by
   have : ws[i]? = some x2 := by simpa using p2
   rw [hv] at this
   exact (Option.some.inj this).symm
  subst e1 e2
  refine ⟨_, rfl, wpAny_letOwnedTupleGo_zip (s := { s with heap := h', toks := tk }) z' fun h2 z2 sb => ?_⟩
  have up : ∀ c o, c ≠ n + 4 -> h'.get? c = some o -> h2.get? c = some o := fun c o hc' e => (sb.2 c hc').trans e
  have hT2 := up _ _ (Nat.ne_of_gt z4) hT
  have all : ∀ c o, c ∉ [n + 4, n + 2, n + 3, n, n + 1] -> s.heap.get? c = some o -> h2.get? c = some o := fun c o hc' e => by
   simp only [core_List_mem_cons_al, core_List_not_mem_nil_al, or_false, not_or] at hc'
   exact up c o hc'.1 (hk c o hc'.1 hc'.2.2.1 hc'.2.2.2.1 hc'.2.2.2.2 e)
  have J : Inv X pins σ (upd H s.heap.objs.size (.tup [x, y])) { s with heap := h2, toks := tk } :=
   I.turnedNew (ch := [n + 4, n + 2, n + 3, n, n + 1]) all hf (core_Nat_le_refl_al _) ⟨by show 2 <= sizeLine; decide, [x1, x2], .cons ru (.cons rv .nil), ⟨_, hT2, rfl, _, rfl⟩⟩
  refine ⟨.ref s.heap.objs.size, _, J, rfl, ⟨_, x, y, rfl, I.hok.fresh (core_Nat_le_refl_al _), rfl, fun l hl => by rw [sqB_inj I hl q1]; exact hx, fun l hl => by rw [sqB_inj I hl q2]; exact hy⟩, ⟨z2, ?_, ⟨_, _, up _ _ (Nat.ne_of_lt (by omega)) TO'⟩, ?_, ?_⟩, fun c hcm => ?_⟩
  ·exact up _ _ (Nat.ne_of_lt (by omega)) (hk _ _ (Nat.ne_of_lt (by omega)) (Nat.ne_of_lt (by omega)) (Nat.ne_of_gt (by omega)) (Nat.ne_of_gt (by omega)) s2)
  ·exact irB_at t1.1 fun o e => up n o (Nat.ne_of_lt (by omega)) e
  ·exact irB_at t2.1 fun o e => up (n + 1) o (Nat.ne_of_lt (by omega)) e
  ·have hlt : c < s.heap.objs.size := by
    simp only [core_List_mem_cons_al, core_List_not_mem_nil_al, or_false] at hcm
    rcases hcm with e | e | e | e | e <;> rw [e] <;> exact Nat.lt_of_le_of_lt (m := n + 4) (by omega) z4
   rw [upd_ne (Nat.ne_of_lt hlt)]
   exact (hf c hcm).1
 done := fun X hP hw hK hc i pins s σ H E I hf st hg => by
  subst hP hw hK
  obtain ⟨s1, s2, ⟨x0, y0, s3⟩, s4, s5⟩ := st
  obtain ⟨xs, ys, q1, q2, hi⟩ := hg
  obtain ⟨us, r1, o1⟩ := sqB_ob I q1
  obtain ⟨ws, r2, o2⟩ := sqB_ob I q2
  have D1 := drawsB (prog := X.prog) (w := X.w) (A := X.A.in1) (I.ok.hd hc) b1 n a1 (Nat.ne_of_lt l1) us.toArray
  have D2 := drawsB (prog := X.prog) (w := X.w) (A := X.A.in1) (I.ok.hd hc) b2 (n + 1) a2 (Nat.ne_of_lt (by omega)) ws.toArray
  have m1 := r1.length
  have m2 := r2.length
  have z1 : us.toArray.size = xs.length := by simp [m1]
  have z2 : ws.toArray.size = ys.length := by simp [m2]
  refine wpAny_pyNext_zipD2_end (sepB l1 l2) D1 D2 s1 s2 s3 ⟨s4, o1⟩ ⟨s5, o2⟩ (by omega) (by omega) (by omega) fun h' tk hk => ⟨rfl, I.turnedL (ch := [n + 4, n + 2, n + 3, n, n + 1]) (fun c o hc' e => ?_) hf⟩
  simp only [core_List_mem_cons_al, core_List_not_mem_nil_al, or_false, not_or] at hc'
  exact hk c o hc'.1 hc'.2.2.1 hc'.2.2.2.1 hc'.2.2.2.2 e
 self := fun A i s Q E st h => wpAny_pyIter_zip st.1 h
def iZpA (K : PySem.W.Frag) (ta : TA) : TI := fun σ H R => ta σ H fun vs H1 => ∃ b1 b2 a1 a2 xs ys, vs = [.ref a1, .ref a2] /\ SqB K H1 b1 a1 xs /\ SqB K H1 b2 a2 ys /\ R (ItzB K b1 b2 a1 a2) H1
theorem pi_zpA {X : Cx} {e e2 : Expr} {ta : TA} {p pos tpos : Pos} {elts : List Expr} {kk : Nat} (hg : Gl X "zip") (hm : X.mg "zip" = none) (ha : PA X [e, e2] ta)
  (hs : starEach [e, e2] X.env = (false, eval e X.env) :: starEach [e2] X.env := by rfl) (hpl : (backTo pos (starEach [e2] X.env)).any (·.1) = false := by rfl) :
  PI X (.Tuple elts kk tpos) (.Call (.Name "zip" p) [e, e2] [] pos) (iZpA X.K ta) := by
 refine ⟨fun pins s σ H R I h => Call_ (ld_blt I hg hm PyProof.Rows.boot_zip (PyProof.Rows.callWith_type1 (thn (ha.run pos pins s σ H _ I h) fun us s1 hh => ?_) hs hpl))⟩
 obtain ⟨vs, H1, J, rr, b1, b2, a1, a2, xs, ys, rfl, q1, q2, q⟩ := hh
 cases rr with
 | @cons _ w1 _ _ ra rt =>
  cases rt with
  | @cons _ w2 _ _ rb rt =>
   cases rt
   obtain rfl : w1 = Value.ref a1 := ra
   obtain rfl : w2 = Value.ref a2 := rb
   obtain ⟨us, r1, o1⟩ := sqB_ob J q1
   obtain ⟨ws, r2, o2⟩ := sqB_ob J q2
   obtain ⟨p1, B1, g1, d1⟩ := beginsB b1 a1 us.toArray
   obtain ⟨p2, B2, g2, d2⟩ := beginsB b2 a2 ws.toArray
   obtain ⟨oo1, _, oe1, _⟩ := obB_ob o1
   obtain ⟨oo2, _, oe2, _⟩ := obB_ob o2
   have l1 : a1 < s1.heap.objs.size := Heap.lt_size oe1
   have l2 : a2 < s1.heap.objs.size := Heap.lt_size oe2
   refine zip_begins2 B1 B2 o1 o2 fun h' hz hTI hTO i1 i2 hsz hk => wpAny_pyIter_zip hz ⟨_, _, _, ItzB X.K b1 b2 a1 a2, H1, rfl, J.kept (t' := s1.toks) hk, turn_zipB l1 l2, ⟨hz, hTI, ⟨_, _, hTO⟩, g1 _ _ i1, g2 _ _ i2⟩, fun c hc => ?_, q⟩
   have hle : s1.heap.objs.size <= c := by
    simp only [core_List_mem_cons_al, core_List_not_mem_nil_al, or_false] at hc
    rcases hc with e | e | e | e | e <;> rw [e] <;> first
     | exact core_Nat_le_refl_al _
     | exact Nat.le_add_right _ _
   exact J.fpOk hle (J.hok.fresh hle)
section
variable {W : WX} {K : PySem.W.Frag} {c c' : Co} {S : Store} {H H' : Hp} {x y z : AV} {u v : V} {xs ys : List AV} {us vs : List V} {tA : TA} {dA : DA}
def zipd : List AV -> List AV -> List AV
 | x :: xs, y :: ys => .tup false [x, y] :: zipd xs ys
 | _, _ => []
theorem zipd_len : ∀ {xs ys : List AV}, (zipd xs ys).length = min xs.length ys.length
 | [], _ => by simp [zipd]
 | _ :: _, [] => by simp [zipd]
 | _ :: xs, _ :: ys => by
  show (zipd xs ys).length + 1 = _
  rw [zipd_len, core_List_length_cons_al, core_List_length_cons_al]
  omega
theorem zipd_at : ∀ {xs ys : List AV} {i : Nat} {x y : AV}, xs[i]? = some x -> ys[i]? = some y -> (zipd xs ys)[i]? = some (.tup false [x, y])
 | [], _, _, _, _, h, _ => by simp at h
 | _ :: _, [], _, _, _, _, h => by simp at h
 | a :: xs, b :: ys, 0, x, y, h1, h2 => by
  cases h1
  cases h2
  rfl
 | a :: xs, b :: ys, i + 1, x, y, h1, h2 => by
  have := zipd_at (xs := xs) (ys := ys) (i := i) (by simpa using h1) (by simpa using h2)
  simpa [zipd] using this
def sqGd (S : Store) : AV -> Option (List AV × (Store -> Bool))
 | .ref i => (stL S i).map fun xs => (xs, fun S => eqL S i xs)
 | .lst xs => some (xs, fun _ => true)
 | .tup _ xs => some (xs, fun _ => true)
 | _ => none
theorem sqGd_at {gd : Store -> Bool} (hK : c.K = K) (k : Cor c S H) (r : Rel c H x v) (e : sqGd S x = some (xs, gd)) : ∃ b a, v = .ref a /\ (∃ vs, SqB K H b a vs /\ Rels c H xs vs) /\ ∀ c2 S2 H2, Nxw c H c2 H2 -> Cor c2 S2 H2 -> gd S2 = true -> ∃ vs, SqB K H2 b a vs /\ Rels c2 H2 xs vs := by
 subst hK
 cases x with
 | ref i =>
  obtain ⟨ys, h1, h2⟩ := core_Option_map_eq_some_iff_al.mp (show ((stL S i).map fun xs => (xs, fun S => eqL S i xs)) = some (xs, gd) from e)
  cases h2
  obtain ⟨a, rfl, ht, vs, h4, rs⟩ := k.obj r (stL_eq.mp h1)
  refine ⟨true, a, rfl, ⟨vs, sq_of h4, rs⟩, fun c2 S2 H2 n k2 g => ?_⟩
  obtain ⟨us, h5, h6⟩ := k2.at_ i _ a (stL_eq.mp (eqL_iff.mp g)) (n.at ht)
  exact ⟨us, sq_of h5, h6⟩
 | lst ys =>
  cases e
  cases r with
  | @lst a _ vs h o rs => exact ⟨true, a, rfl, ⟨vs, sq_of h, rs⟩, fun c2 S2 H2 n _ _ => ⟨vs, sq_of (n.keep _ _ o h), rs.nxw n⟩⟩
 | tup p ys =>
  cases e
  cases r with
  | @tup a _ _ vs h _ rs => exact ⟨false, a, rfl, ⟨vs, h, rs⟩, fun c2 S2 H2 n _ _ => ⟨vs, by have := n.sqT h; rw [n.K] at this; exact this, rs.nxw n⟩⟩
 | _ => cases e
def itsZ (S : Store) (xs : List AV) : Option Wk := match xs with
 | [x, y] => (sqGd S x).bind fun p => (sqGd S y).map fun q => ⟨zipd p.1 q.1, fun S => p.2 S && q.2 S⟩
 | _ => none
def diZip (dA : DA) : DI := fun ρ S => (dA ρ S).bind fun xs S1 => ofO (itsZ S1 xs) S1
theorem si_zip (ha : SA W K tA dA) : SI W K (iZpA K tA) (diZip dA) := by
 intro ρ S c σ H R hK k e h
 refine ha ρ S c σ H _ hK k e (Res.post_mono (Res.post_bind.mp h) (fun xs S1 h1 => ?_) fun _ _ z => z)
 intro c1 H1 us n1 k1 rs
 obtain ⟨its, hi, g⟩ := ofO_post h1
 have hK1 := n1.K.trans hK
 unfold itsZ at hi
 split at hi
 ·obtain ⟨⟨ps, gp⟩, h2, hi⟩ := Option.bind_eq_some_iff.mp hi
  obtain ⟨⟨qs, gq⟩, h3, hi⟩ := core_Option_map_eq_some_iff_al.mp hi
  subst hi
  cases rs with
  | cons r1 rs =>
   cases rs with
   | cons r2 rs =>
    cases rs
    obtain ⟨b1, a1, rfl, ⟨vs1, q1, rs1⟩, f1⟩ := sqGd_at hK1 k1 r1 h2
    obtain ⟨b2, a2, rfl, ⟨vs2, q2, rs2⟩, f2⟩ := sqGd_at hK1 k1 r2 h3
    refine ⟨b1, b2, a1, a2, vs1, vs2, rfl, q1, q2, g c1 H1 _ n1 k1 ⟨fun H => ∃ us ws, SqB K H b1 a1 us /\ SqB K H b2 a2 ws /\ us.length = ps.length /\ ws.length = qs.length,
     fun i H v H' => (ItzB K b1 b2 a1 a2).yld i H v H', ⟨fun i H hi q => ?_, fun H q => ?_, fun i H x H' hi q y => y⟩, fun c S H n k gd => ?_, fun i x H H' c S hi n k gd y => ?_⟩⟩
    ·obtain ⟨us, ws, z1, z2, z3, z4⟩ := q
     have hi : i < (zipd ps qs).length := hi
     rw [zipd_len] at hi
     exact ⟨us, ws, us[i]'(by omega), ws[i]'(by omega), z1, z2, core_List_getElem__eq_getElem_al _, core_List_getElem__eq_getElem_al _⟩
    ·obtain ⟨us, ws, z1, z2, z3, z4⟩ := q
     exact ⟨us, ws, z1, z2, by rw [z3, z4]; exact zipd_len⟩
    ·obtain ⟨us, z1, w1⟩ := f1 c S H n k (core_Bool_and_eq_true_iff_al.mp gd).1
     obtain ⟨ws, z2, w2⟩ := f2 c S H n k (core_Bool_and_eq_true_iff_al.mp gd).2
     exact ⟨us, ws, z1, z2, w1.len.symm, w2.len.symm⟩
    ·obtain ⟨T, p, q, rfl, hT, rfl, y1, y2⟩ := y
     obtain ⟨us, z1, w1⟩ := f1 c S H n k (core_Bool_and_eq_true_iff_al.mp gd).1
     obtain ⟨ws, z2, w2⟩ := f2 c S H n k (core_Bool_and_eq_true_iff_al.mp gd).2
     obtain ⟨p', hp, rp⟩ := w1.at' (y1 us z1)
     obtain ⟨q', hq, rq⟩ := w2.at' (y2 ws z2)
     exact ⟨_, zipd_at hp hq, Nxt.new hT, k.new hT, new_tup hT (.cons rp (.cons rq .nil))⟩
 ·cases hi
end
section
variable {X : Cx} {W : WX}
theorem sky_zc {B : Heap} {l : List PySem.Env} {a L : Addr} {cls : Value} {d : Option Addr} {h : Heap} (x : Sky B l a (L2N.Zn cls d) L h) : Sky B l a (Zc cls d) L h := by
 rcases x with ⟨x1, x2, x3, o, vs, x4, x5, x6⟩ | f | ⟨x1, x2, x3, t⟩
 ·exact .inl ⟨x1, x2, x3, o, vs, x4, x5.zc, x6⟩
 ·exact .inr (.inl (L2H.flyingZ_imp (fun _ y => y.zc) f))
 ·exact .inr (.inr ⟨x1, x2, x3, L2H.tracedZ_imp (fun _ y => y.zc) t⟩)
theorem xe_zc {u : Value} {s' : Shared} (x : L2N.XE X W u s') : L2.XE X W u s' := by
 obtain ⟨a, B, sI, pins, σ, H, cls, d, e, I, nb, up, sky, r⟩ := x
 exact ⟨a, B, sI, pins, σ, H, cls, d, e, I, nb, up, sky_zc sky, r⟩
theorem takes_zc (t : L2.Takes X W) : L2N.Takes X W := fun u s' x => t u s' (xe_zc x)
theorem passT (t : L2.Takes X W) (σ : L2.St) : PassesAt (L2N.CX X.prog X.w) X σ (WE W σ) := L2N.passAt (takes_zc t) σ
theorem passS (t : L2N.Takes X W) (σ : L2.St) : PassesAt (L2N.CX X.prog X.w) X σ (WE W σ) := L2N.passAt t σ
theorem passN {X : Cx} : Passes (L2N.CX X.prog X.w) X (fun _ _ _ => False) := fun _ _ _ _ _ _ _ z => by
 obtain ⟨_, _, _, _, _, _, _, _, _, _, _, _, z⟩ := z
 exact False.elim z
end
section
variable {P : Program} {w : World} {K : PySem.W.Frag} {mg : Str -> Option Value} {base : Heap}
theorem okC_fun {CX : CXT} {x qual : Str} {st : Stmt} {f : Addr} {fd : FuncData} {N ps : List Str} {k : Nat} {sp : Sp} (F : Fun K x qual st f fd) (S : FnScope N ps (defScope st)) (len : ∀ vs H Q E, sp vs H Q E -> vs.length = ps.length)
  (hb : ∀ (cdv : Value) (A : Around) (outer : List PySem.Env) (s : Shared) (H : Hp) (vs : List V) (Q : VK) (E : XK), Room k (A.deeper (envOfC qual (defScope st) s.heap.objs.size f cdv)) -> sp vs H Q E -> ∃ t, PSs (cxOf CX P w K mg base N qual (defScope st) f cdv A outer s H E) (defBody st) t /\ t { nx := fun _ H' => Q .non H', rt := Q } (start N vs) H) : FnOk P w K mg base CX (k + 1) f fd ps sp := by
 obtain ⟨_, _, _, _, _, _, cdv, _, _, rfl, lk, hcd⟩ := F.ex
 exact fn_of lk hcd S len fun A outer s H vs Q E hr h => hb cdv A outer s H vs Q E hr h
end
section
variable {X : Cx}
theorem pmk_oexN {CX : CXT} {x : Str} {e : Expr} {es : List Expr} {ta : TA} {C fI : Addr} {k : Nat} {fd : FuncData} {ps : List Str} {sp : Sp} {p pos : Pos} (T : OexC X.K C) (iC : PySem.W.findIn X.K (.ref C) "__init__" = some (some (.ref fI))) (tI : PySem.W.typeIn X.K (.ref fI) = some (.type "function")) (F1 : FnOk X.prog X.w X.K X.mg X.base CX k fI fd ps sp) (hr : Room (k + 1) X.A) (hb : Binds X.K fd ps []) (hx : Passes CX X fun _ _ _ => False) (hg : Gl X x) (hm : X.mg x = some (.ref C)) (ha : PA X (e :: es) ta)
  (hdb : (x == ("__debug__" : Str)) = false := by decide) (he : starEach (e :: es) X.env = (false, eval e X.env) :: starEach es X.env := by rfl) (hpl : (backTo pos (starEach es X.env)).any (·.1) = false := by rfl) : L2N.PMk X (.Call (.Name x p) (e :: es) [] pos) (tMkO C sp [] ta) := by
 intro pins s σ H Q I h
 obtain ⟨_, _, _, _, bm, _, _, _, _, _, _, _, _, _, _, hC, hbm⟩ := T.cls
 refine wpAny_Call_Name_kw (ld_glob I hg hm (PySem.W.callWith_K (h₀ := X.base) I.ok.mod.kin T.kC (thn (ha.run pos pins s σ H _ I h) fun us s1 hh => ?_) he hpl) hdb)
 obtain ⟨vs, H1, I1, r1, _, q1⟩ := hh
 refine ⟨I1.kIn, ?_⟩
 show wpAny _ _ (call (.ref C) us) _ _ _
 obtain ⟨hp, g, dr, tk, os⟩ := s1
 let a := hp.objs.size + 1
 let hp2 := (hp.push (PySem.W.kdv_tup us)).push (PySem.HandSPX.excO C hp.objs.size)
 have hsz : hp.objs.size <= a := Nat.le_succ _
 have hq := q1 a (I1.hok.fresh hsz)
 rw [core_List_append_nil_al] at hq
 have kk : ∀ b o, hp.get? b = some o -> hp2.get? b = some o := fun b o e => Heap.get?_push_of_some _ (Heap.get?_push_of_some _ e)
 have hget : hp2.get? a = some (PySem.HandSPX.excO C hp.objs.size) := by
  show ((hp.push (PySem.W.kdv_tup us)).push (PySem.HandSPX.excO C hp.objs.size)).get? (hp.objs.size + 1) = _
  heap_get
 have I2 : L2.Inv X pins σ (upd H1 a (exo a C none)) ⟨hp2, g, dr, tk, os⟩ := I1.laid (t' := tk) (a := a) (o := exo a C none) (h' := hp2) kk hsz (exo_ok hget)
 have r2 : Vals (V.ref a :: vs) (Value.ref a :: us) := .cons rfl r1
 have hl : (Value.ref a :: us ++ []).length = ps.length := by
  rw [core_List_append_nil_al, <- r2.length]
  exact F1.len _ _ _ _ hq
 have hus : us.length <= sizeLine := by
  rw [<- Paired.length r1, sizeLine_eq]
  omega
 have b2 := hb _ (Value.ref a :: us) I2.kIn hl
 rw [core_List_append_nil_al] at b2
 refine wpAny_call (PySem.HandSPX.call_own F.excBase_ValueError (fun Y => PySem.HandSPX.refsVE_contains Y bm hbm) (I1.kIn _ _ hC) (PySem.W.looks_findIn I1.kIn iC) (fun self => PySem.W.bind_fn I1.kIn self tI) hus (codeAny_mono (F1.run _ X.stack _ _ ⟨Value.ref a :: us, []⟩ _ _ _ (fun _ _ _ => False) (hr.make C us []) (I2.env0.make C us []) b2 r2 hq) fun r s' hq' => ?_))
 cases r with
 | error er => exact hx pins σ _ _ er s' I2 hq'
 | ok fl =>
  cases fl with
  | next => exact False.elim hq'
  | brk => exact False.elim hq'
  | cont => exact False.elim hq'
  | ret u =>
   obtain ⟨v, H2, os2, bare2, un2, hok2, rv, ev, d, fs, ea, ed, hd1, q2⟩ := hq'
   subst ev
   obtain ⟨h2, g2, d2, t2, os'⟩ := s'
   obtain ⟨t0, G, J, kG, ge, hoe, na⟩ := mk_end0 (d2 := d2) (t2 := t2) I1 hsz kk un2 hok2 os2 bare2 ea ed hd1
   exact ⟨rv, a, _, _, ⟨G, g2, d2, t2, os'⟩, _, .ref C, some d, rfl, J, kG, ge, hoe, ⟨rfl, rfl, fun vs hv => by cases hv; rfl⟩, rfl, rfl, na, rfl, bare2, raises_own T.exC T.tyC, q2⟩
end
mutual
def AV.lt (n : Nat) : AV -> Bool
 | .non | .bl _ | .int _ | .str _ | .opq _ | .key _ => true
 | .tup _ xs | .lst xs => ltA n xs
 | .dic ks => ltK n ks
 | .obj _ fs | .exc _ fs => ltF n fs
 | .ref i => decide (i < n)
def ltA (n : Nat) : List AV -> Bool
 | [] => true
 | x :: xs => x.lt n && ltA n xs
def ltK (n : Nat) : List (AV × AV) -> Bool
 | [] => true
 | (k, x) :: xs => k.lt n && (x.lt n && ltK n xs)
def ltF (n : Nat) : List (Str × AV) -> Bool
 | [] => true
 | (_, x) :: xs => x.lt n && ltF n xs
end
def ltT (n : Nat) : List (List Key × AV) -> Bool
 | [] => true
 | (_, x) :: xs => x.lt n && ltT n xs
def AO.lt (n : Nat) : AO -> Bool
 | .lst xs => ltA n xs
 | .dic ks => ltK n ks
 | .obj _ fs => ltF n fs
 | .nod _ => true
 | .lkd ks => ltK n ks
 | .tdc _ ks => ltT n ks
abbrev FD := List AV -> Store -> Res AV
def conc (K : PySem.W.Frag) (n : Nat) (F : FD) : Sp := fun vs H Q E => ∃ (c : Co) (S : Store) (avs : List AV), c.K = K /\ Cor c S H /\ Rels c H avs vs /\ avs.length = n /\ (F avs S).post (Good c H Q) (Fall c H E)
def envOf (n : Nat) (avs : List AV) : Env := avs.map some ++ List.replicate (n - avs.length) none
theorem env_start {c : Co} {H : Hp} {avs : List AV} {vs : List V} {N : List Str} (r : Rels c H avs vs) : EnvR c H (envOf N.length avs) (L2.start N vs) := by
 have hl := r.len
 refine ⟨by simp [envOf, L2.start, hl], fun i x e => ?_⟩
 unfold envOf at e
 unfold L2.start
 by_cases hi : i < avs.length
 ·rw [core_List_getElem__append_left_al (by simpa using hi), core_List_getElem__map_al] at e
  cases q : avs[i]? with
  | none =>
   rw [q] at e
   cases e
  | some y =>
   rw [q] at e
   cases e
   obtain ⟨v, h1, h2⟩ := r.at q
   exact ⟨v, by rw [core_List_getElem__append_left_al (by simp; omega), core_List_getElem__map_al, h1]; rfl, h2⟩
 ·rw [core_List_getElem__append_right_al (by simpa using hi), List.getElem?_replicate] at e
  split at e <;> cases e
def RS.toRes (r : RS) : Res AV := match r with
 | .go (.nx _) S => .ok .non S
 | .go (.rt v) S => .ok v S
 | .go (.xc _ e) S => .exc e S
 | _ => .bad
def runD (ds : DS) (n : Nat) : FD := fun avs S => (ds (envOf n avs) S).toRes
abbrev WO (E : XK) : WX := fun cls d _ H => E cls d H
section
variable {W : WX} {K : PySem.W.Frag} {tA : TA} {dA : DA} {ta : TE} {da : DE}
def dCall (n : Nat) (F : FD) (dA : DA) : DE := fun ρ S => (dA ρ S).bind fun avs S1 => if avs.length = n then F avs S1 else .bad
theorem se_call {n : Nat} {F : FD} (ha : SA W K tA dA) : SE W K (tCallS (conc K n F) (WE W) tA) (dCall n F dA) := by
 intro ρ S c σ H Q hK k e h
 refine ha ρ S c σ H _ hK k e (Res.post_mono (Res.post_bind.mp h) (fun avs S1 h1 => ?_) fun _ _ z => z)
 intro c1 H1 vs n1 k1 rs
 split at h1
 next hl => exact ⟨c1, S1, avs, n1.K.trans hK, k1, rs, hl, Res.post_mono h1 (fun _ _ g => g.nxt n1) fun _ _ g => g.nxt n1⟩
 next => exact False.elim h1
def dMeth (C m : Str) (n : Nat) (F : FD) (da : DE) (dA : DA) : DE := fun ρ S => (da ρ S).bind fun x S1 => match fsOf S1 x with
 | some (cn, fs) => if cn = C /\ fs.lookup m = none then (dA ρ S1).bind fun avs S2 => if avs.length + 1 = n then F (x :: avs) S2 else .bad else .bad
 | none => .bad
theorem pass_no {X : Cx} (σ : L2.St) : PassesAt (L2N.CX X.prog X.w) X σ (WE W0 σ) := fun _ _ _ _ _ _ z => by
 obtain ⟨_, _, _, _, _, _, _, _, _, _, _, _, z⟩ := z
 exact False.elim z
end
abbrev MF := AV -> List AV -> Store -> Option (AV × Store)
def tyA (T : String) (x : AV) (S : Store) : Bool := match x with
 | .str _ => decide (T = "str")
 | .lst _ => decide (T = "list")
 | .dic _ => decide (T = "dict")
 | .ref i => match S[i]? with
  | some (.lst _) => decide (T = "list")
  | some (.dic _) => decide (T = "dict")
  | _ => false
 | _ => false
section
variable {W : WX} {K : PySem.W.Frag} {c c' : Co} {S : Store} {H H' : Hp} {x y z : AV} {u v : V} {xs ys : List AV} {us vs : List V} {te ta : TE} {da de : DE} {tA : TA} {dA : DA} {T : String}
theorem tyA_at (hK : c.K = K) (k : Cor c S H) (r : Rel c H x u) (h : tyA T x S = true) : tyV K T u H := by
 cases x with
 | str z =>
  cases r
  show T = "str"
  exact of_decide_eq_true (show decide (T = "str") = true from h)
 | lst xs =>
  cases r with
  | lst h1 _ _ => exact .inl ⟨of_decide_eq_true h, _, sq_of h1⟩
 | dic xs =>
  cases r with
  | dic h1 _ _ => exact .inr (.inr (.inl ⟨of_decide_eq_true h, .inl ⟨_, h1⟩⟩))
 | ref i =>
  have h : (match S[i]? with
   | some (.lst _) => decide (T = "list")
   | some (.dic _) => decide (T = "dict")
   | _ => false) = true := h
  cases r with
  | @ref _ a h2 =>
   obtain ⟨o, e, ro⟩ := k.there h2
   rw [e] at h
   cases o with
   | lst xs =>
    obtain ⟨vs, h1, _⟩ := ro
    exact .inl ⟨of_decide_eq_true h, _, sq_of h1⟩
   | dic xs =>
    obtain ⟨vs, h1, _⟩ := ro
    exact .inr (.inr (.inl ⟨of_decide_eq_true h, .inl ⟨_, h1⟩⟩))
   | obj _ _ => cases h
   | nod _ => cases h
   | lkd _ => cases h
   | tdc _ _ => cases h
 | _ => cases h
def SM (K : PySem.W.Frag) (r : V -> List V -> Hp -> VK -> Prop) (f : MF) : Prop := ∀ (x : AV) (xs : List AV) (y : AV) (S S' : Store) (c : Co) (u : V) (us : List V) (H : Hp) (Q : VK), c.K = K -> Cor c S H -> Rel c H x u -> Rels c H xs us ->
 f x xs S = some (y, S') -> Good c H Q y S' -> r u us H Q
def dBM (T : String) (f : MF) (dx : DE) (dA : DA) : DE := fun ρ S => (dx ρ S).bind fun x S1 => if tyA T x S1 = true then (dA ρ S1).bind fun as S2 => match f x as S2 with
 | some (y, S3) => .ok y S3
 | none => .bad else .bad
theorem se_bm {r : V -> List V -> Hp -> VK -> Prop} {f : MF} (ha : SE W K ta da) (hA : SA W K tA dA) (hm : SM K r f) : SE W K (tBM K T r ta tA) (dBM T f da dA) := by
 intro ρ S c σ H Q hK k e h
 refine ha ρ S c σ H _ hK k e (Res.post_mono (Res.post_bind.mp h) (fun x S1 h1 => ?_) fun _ _ z => z)
 intro c1 H1 u n1 k1 r1
 have hK1 := n1.K.trans hK
 split at h1
 next ht =>
  refine ⟨tyA_at hK1 k1 r1 ht, hA ρ S1 c1 σ H1 _ hK1 k1 (e.nxt n1) (Res.post_mono (Res.post_bind.mp h1) (fun as S2 g => ?_) fun _ _ z => z.nxt n1)⟩
  intro c2 H2 us n2 k2 rs
  cases q : f x as S2 with
  | none =>
   rw [q] at g
   exact False.elim g
  | some p =>
   obtain ⟨y, S3⟩ := p
   rw [q] at g
   exact hm x as y S2 S3 c2 u us H2 Q (n2.K.trans hK1) k2 (r1.nxt n2) rs q (Good.nxt (show Good c H Q y S3 from g) (n1.trans n2))
 next => exact False.elim h1
theorem se_bm0 {r : V -> List V -> Hp -> VK -> Prop} {f : MF} (ha : SE W K ta da) (hm : SM K r f) : SE W K (tBM0 K T r ta) (dBM T f da dNil) := by
 intro ρ S c σ H Q hK k e h
 refine ha ρ S c σ H _ hK k e (Res.post_mono (Res.post_bind.mp h) (fun x S1 h1 => ?_) fun _ _ z => z)
 intro c1 H1 u n1 k1 r1
 have hK1 := n1.K.trans hK
 split at h1
 next ht =>
  refine ⟨tyA_at hK1 k1 r1 ht, ?_⟩
  have g : (match f x [] S1 with | some (y, S3) => (Res.ok y S3 : Res AV) | none => .bad).post (Good c H Q) (Fall c H (WE W σ)) := h1
  cases q : f x [] S1 with
  | none =>
   rw [q] at g
   exact False.elim g
  | some p =>
   obtain ⟨y, S3⟩ := p
   rw [q] at g
   exact hm x [] y S1 S3 c1 u [] H1 Q hK1 k1 r1 .nil q (Good.nxt (show Good c H Q y S3 from g) n1)
 next => exact False.elim h1
theorem Cor.lst_at {i : Nat} (k : Cor c S H) (r : Rel c H (.ref i) u) (e : stL S i = some xs) : ∃ a vs, u = .ref a /\ c.tr[i]? = some a /\ H a = some (.lst vs) /\ Rels c H xs vs := by
 obtain ⟨a, e1, e2, vs, h1, h2⟩ := k.obj r (stL_eq.mp e)
 exact ⟨a, vs, e1, e2, h1, h2⟩
def fAppend : MF := fun x as S => match x, as with
 | .ref i, [y] => match stL S i with
  | some xs => if xs.length <= lim then some (.non, S.set i (.lst (xs ++ [y]))) else none
  | none => none
 | _, _ => none
theorem sm_append : SM K rAppend fAppend := by
 intro x as y S S' c u us H Q hK k r rs h g
 unfold fAppend at h
 split at h
 next i z =>
  split at h
  next xs q =>
   split at h
   next hl =>
    cases h
    obtain ⟨a, vs, rfl, ha, hv, rv⟩ := k.lst_at r q
    cases rs with
    | cons rz t =>
     cases t
     exact ⟨a, vs, _, rfl, rfl, hv, by rw [<- rv.len]; have := sizeLine_eq; unfold lim at hl; omega, g c _ .non (k.nxtSet ha ⟨_, hv, trivial⟩) (k.setL ha hv (rv.app (.one rz))) .non⟩
   next => cases h
  next => cases h
 next => cases h
end
section
variable {W : WX} {K : PySem.W.Frag} {c c' : Co} {S : Store} {H H' : Hp} {x y z : AV} {u v : V} {xs ys : List AV} {us vs : List V} {te ta tb td : TE} {da db dd dz : DE} {tA : TA} {dA : DA}
def putB (ks : List (AV × AV)) (q x : AV) : List (AV × AV) := if (ks.any fun p => keyEq p.1 q) = true then ks.map (fun p => if keyEq p.1 q = true then (p.1, x) else p) else ks ++ [(q, x)]
def dDPut (dd dy dv : DE) : DS := fun ρ S => (dv ρ S).go ρ fun v S1 => (dd ρ S1).go ρ fun x S2 => (dy ρ S2).go ρ fun y S3 => match x with
 | .ref i => (match stD S3 i with
  | some ks => if ks.length <= lim /\ isKey y = true then .go (.nx ρ) (S3.set i (.dic (putB ks y v))) else .bad
  | none => (match stN S3 i, optI y, optI v with
   | some ks, some k, some w => if ks.length <= lim then .go (.nx ρ) (S3.set i (.nod (putN ks k w))) else .bad
   | _, _, _ => .bad))
 | _ => .bad
def dGet2 (dd dy dz : DE) : DE := fun ρ S => (dd ρ S).bind fun x S1 => if (dicOf S1 x).isSome = true then (dy ρ S1).bind fun y S2 => (dz ρ S2).bind fun z S3 => match dicOf S3 x with
 | some ks => if isKey y = true then .ok ((look ks y).getD z) S3 else .bad
 | none => .bad else .bad
end
section
variable {W : WX} {K : PySem.W.Frag} {c c' : Co} {S : Store} {H H' : Hp} {x y z : AV} {u v : V} {xs ys : List AV} {us vs : List V} {te ta tb td : TE} {da db dd dz de : DE} {tA : TA} {dA : DA}
def txtsA : List AV -> Option (List Str)
 | [] => some []
 | .str z :: r => (txtsA r).map (z :: ·)
 | _ :: _ => none
theorem txtsA_at : ∀ {xs : List AV} {vs : List V} {zs : List Str}, Rels c H xs vs -> txtsA xs = some zs -> vs = zs.map V.str
 | _, _, zs, .nil, e => by
  cases e
  rfl
 | x :: xs, v :: vs, zs, .cons r t, e => by
  cases x with
  | str w =>
   obtain ⟨ws, h1, h2⟩ := core_Option_map_eq_some_iff_al.mp (show (txtsA xs).map (w :: ·) = some zs from e)
   subst h2
   rw [txtsA_at t h1]
   cases r
   rfl
  | _ => cases e
end
section
variable {W : WX} {K : PySem.W.Frag} {c c' : Co} {S : Store} {H H' : Hp} {x y z : AV} {u v : V} {xs ys : List AV} {us vs : List V} {te ta tb td tk tv : TE} {da db dd dz de dv : DE} {tA : TA} {dA : DA} {tT : TT} {dT : DT} {t : TS} {ds : DS}
def putFA (f : Str) (v : AV) : List (Str × AV) -> List (Str × AV)
 | [] => [(f, v)]
 | (g, x) :: r => if g = f then (g, v) :: r else (g, x) :: putFA f v r
def dSetF (f : Str) (ns : List Str) (dv dx : DE) : DS := fun ρ S => (dv ρ S).go ρ fun y S1 => (dx ρ S1).go ρ fun x S2 => match x with
 | .ref i => (match stO S2 i with
  | some (n, fs) => if n ∈ ns /\ fs.length < 1000 then .go (.nx ρ) (S2.set i (.obj n (putFA f y fs))) else .bad
  | none => .bad)
 | _ => .bad
end
section
variable {X : Cx} {K : PySem.W.Frag} (hK : X.K = K)
include hK
theorem k_eq (hu : X.A.units + 65 < cLine) : OpR X (compareOp .Eq) (rEqA K false) := hK ▸ op_eqA hu
theorem k_ne (hu : X.A.units + 65 < cLine) : OpR X (compareOp .NotEq) (rEqA K true) := hK ▸ op_neA hu
theorem k_in (hu : X.A.units + 65 < cLine) : OpR X (compareOp .In) (rInA K false) := hK ▸ op_inA hu
theorem k_add : OpR X (binaryOp .Add) (rAddA K) := hK ▸ op_addA
theorem k_ix (hu : X.A.units + 65 < cLine) : IxR X (rIxA K) := hK ▸ ix_any hu
theorem k_sl : SlR X (rSlAny K) := hK ▸ sl_any
theorem k_len : CallR X (.builtin "len") (rLenA K) := hK ▸ call_lenA
theorem k_tup : CallR X (.type "tuple") (rTupF K) := hK ▸ call_tupF
theorem k_list : CallR X (.type "list") (fun xs H Q => ∃ p ys, xs = [.ref p] /\ (SqL K H p ys ∨ SqT K H p ys) /\ ∀ l, H l = none -> Q (.ref l) (upd H l (.lst ys))) := hK ▸ call_list_of
theorem k_isi : CallR X (.builtin "isinstance") (rIsi K) := hK ▸ call_isi
theorem k_all (hc : X.calm = true) : CallR X (.builtin "all") (rAll K) := hK ▸ cr_all hc
theorem k_truth {a : Expr} {ta : TE} (ha : PE X a ta) (he : ∀ whole, isTrue a X.env whole = (do let v <- whole; standAt a.pos; holding [v] (truthy v)) := by intro _; rfl) : PT X a (fun σ H Q => ta σ H fun x H' => ∃ k, TruV K x H' k /\ Q k H') := hK ▸ pt_truth ha he
theorem k_each {tg l : Expr} {tl : TE} (hl : PE X l tl) : PI X tg l (iAny K tl) := hK ▸ pi_any hl
theorem k_en {e : Expr} {ta : TA} {p pos tpos : Pos} {elts : List Expr} {kk : Nat} (hg : Gl X "enumerate") (hm : X.mg "enumerate" = none) (ha : PA X [e] ta) (hs : starEach [e] X.env = [(false, eval e X.env)] := by rfl) : PI X (.Tuple elts kk tpos) (.Call (.Name "enumerate" p) [e] [] pos) (iEnA K ta) := hK ▸ pi_enA hg hm ha hs
theorem k_zip {e e2 : Expr} {ta : TA} {p pos tpos : Pos} {elts : List Expr} {kk : Nat} (hg : Gl X "zip") (hm : X.mg "zip" = none) (ha : PA X [e, e2] ta)
  (hs : starEach [e, e2] X.env = (false, eval e X.env) :: starEach [e2] X.env := by rfl) (hpl : (backTo pos (starEach [e2] X.env)).any (·.1) = false := by rfl) : PI X (.Tuple elts kk tpos) (.Call (.Name "zip" p) [e, e2] [] pos) (iZpA K ta) := hK ▸ pi_zpA hg hm ha hs hpl
theorem k_bm {T id : String} {name : Str} {r : V -> List V -> Hp -> VK -> Prop} {o e : Expr} {es : List Expr} {to : TE} {t : TA} {apos cpos : Pos} (pa : PlainAttrs T) (slot : Slot T name id) (hty : typeOf (.builtin id) = pure (.type "method_descriptor")) (hm : MtR X id r) (ho : PE X o to) (ha : PA X (e :: es) t)
  (hbase : attributeBase o name X.env (eval o X.env) = eval o X.env := by rfl)
  (hfew : ((backTo cpos (starEach (e :: es) X.env)).all (fun x => !x.1) && (backToKw cpos (keywordEach [] X.env)).all (fun x => x.1.isSome)
   && decide ((e :: es).length + ([] : List Keyword).length + (if ([] : List Keyword).isEmpty then 0 else 1) < 30)) = true := by rfl)
  (hline : (apos.endLine == cpos.line) = true := by rfl) (hs : starEach (e :: es) X.env = (false, eval e X.env) :: starEach es X.env := by rfl) (hplain : (backTo cpos (starEach es X.env)).any (·.1) = false := by rfl) :
  PE X (.Call (.Attribute o name apos) (e :: es) [] cpos) (tBM K T r to t) := hK ▸ pe_bm pa slot hty hm ho ha hbase hfew hline hs hplain
theorem k_bm0 {T id : String} {name : Str} {r : V -> List V -> Hp -> VK -> Prop} {o : Expr} {to : TE} {apos cpos : Pos} (pa : PlainAttrs T) (slot : Slot T name id) (hty : typeOf (.builtin id) = pure (.type "method_descriptor")) (hm : MtR X id r) (ho : PE X o to)
  (hbase : attributeBase o name X.env (eval o X.env) = eval o X.env := by rfl) (hline : (apos.endLine == cpos.line) = true := by rfl) : PE X (.Call (.Attribute o name apos) [] [] cpos) (tBM0 K T r to) := hK ▸ pe_bm0 pa slot hty hm ho hbase hline
theorem k_gtup {es : List Expr} {k : Nat} {t : TGs} {n : Nat} {pos : Pos} (hc : X.calm = true) (h : PGs X es t)
  (hn : (assignEach es X.env).length = n := by rfl) (hst : (assignEach es X.env).findIdx? (·.1) = none := by rfl) : PG X (.Tuple es k pos) (gTup K n t) := hK ▸ pg_tup hc h hn hst
end
theorem fun_den {CX : CXT} {P : Program} {w : World} {K : PySem.W.Frag} {mg : Str -> Option Value} {base : Heap} {x qual : Str} {st : Stmt} {f : Addr} {fd : FuncData} {N ps : List Str} {k : Nat} {ds : DS} (F : Fun K x qual st f fd) (S : FnScope N ps (defScope st))
  (hb : ∀ (cdv : Value) (A : Around) (outer : List PySem.Env) (s : Shared) (H : Hp) (E : XK), Room k (A.deeper (envOfC qual (defScope st) s.heap.objs.size f cdv)) ->
   ∃ t, PSs (cxOf CX P w K mg base N qual (defScope st) f cdv A outer s H E) (defBody st) t /\ SS (WO E) K t ds) :
  FnOk P w K mg base CX (k + 1) f fd ps (conc K ps.length (runD ds N.length)) := by
 refine okC_fun F S (fun vs H Q E h => ?_) (fun cdv A outer s H vs Q E hr h => ?_)
 ·obtain ⟨c, T, avs, _, _, r, hl, _⟩ := h
  rw [<- r.len, hl]
 ·obtain ⟨c, T, avs, hK, cor, r, hl, hp⟩ := h
  obtain ⟨t, ht, sn⟩ := hb cdv A outer s H E hr
  refine ⟨t, ht, sn (envOf N.length avs) T c _ H _ hK cor (env_start r) ?_⟩
  unfold runD at hp
  cases q : ds (envOf N.length avs) T with
  | bad =>
   rw [q] at hp
   exact False.elim hp
  | go fl T' =>
   rw [q] at hp
   cases fl with
   | nx ρ => exact fun c' H' σ n k e => (show Good c H Q .non T' from hp) c' H' .non n k .non
   | rt v => exact hp
   | bk ρ => exact False.elim hp
   | ct ρ => exact False.elim hp
   | xc ρ e => exact fun c' H' σ cls d n k _ re => (show Fall c H E e T' from hp) c' H' cls d n k re
structure DfN (P : Program) (w : World) (K : PySem.W.Frag) (mg : Str -> Option Value) (base : Heap) (k : Nat) (x : Str) (ps : List Str) (F : FD) where
 f : Addr
 fd : FuncData
 G : FnOk P w K mg base (L2N.CX P w) k f fd ps (conc K ps.length F)
 m : mg x = some (.ref f)
 kp : PySem.W.keepIn K (.ref f) = true
 b : Binds K fd ps []
structure TxN (mg : Str -> Option Value) : Prop where
 b_len : mg "len" = none
 b_abs : mg "abs" = none
 b_int : mg "int" = none
 b_max : mg "max" = none
 b_min : mg "min" = none
 b_sum : mg "sum" = none
 b_isinstance : mg "isinstance" = none
 b_tuple : mg "tuple" = none
 b_list : mg "list" = none
 b_dict : mg "dict" = none
 b_str : mg "str" = none
 b_bool : mg "bool" = none
 b_all : mg "all" = none
 b_any : mg "any" = none
 b_range : mg "range" = none
 b_zip : mg "zip" = none
 b_enumerate : mg "enumerate" = none
 b_sorted : mg "sorted" = none
end Dl
namespace Cm
open PySem PySem.Spec PyProof.Rows L2
section
variable {prog : Program} {w : World} {A : Around} {env : Env} {elt t0 i0 t1 i1 t2 i2 : Expr} {f0 f1 f2 : List Expr} {scope : Scope} {pos : Pos} {D : Value}
abbrev c3 (elt t0 i0 t1 i1 t2 i2 : Expr) (f0 f1 f2 : List Expr) (scope : Scope) (pos : Pos) : Expr := .ListComp elt [⟨t0, i0, f0, 0⟩, ⟨t1, i1, f1, 0⟩, ⟨t2, i2, f2, 0⟩] scope pos
end
end Cm
namespace Dl
open PySem PySem.Spec PyProof.Rows L2 Evl Cm
section
variable {W : WX} {K : PySem.W.Frag} {c c' : Co} {S S2 : Store} {H H' H1 : Hp} {x y z : AV} {u v : V} {xs ys : List AV} {us : List V}
structure Hid (c1 : Co) (H1 : Hp) (D : Addr) (ρ : Env) (σ : L2.St) (n : Nat) (c' : Co) (S' : Store) (accA : List AV) (H' : Hp) : Prop where
 nx : Nxt c1 H1 c' H'
 hh : c'.hid D
 htr : D ∉ c'.tr
 k : Cor c' S' H'
 e : EnvR c' H' ρ σ
 lst : ∃ acc, H' D = some (.lst acc) /\ Rels c' H' accA acc /\ acc.length <= n
end
section
variable {ρ ρ1 ρ2 : Dl.Env} {S S1 S2 S3 S4 : Store} {x y z v : AV} {xs ys avs : List AV} {da db dc de dx dy dv : DE} {dA dr : DA} {dT dU : DT} {d d' db' : DS} {dg : DG} {b b1 b2 : Bool} {i n : Nat}
theorem ev_vrx (h : ρ[i]? = some (some x)) : dVar i ρ S = .ok x S := by
 unfold dVar
 rw [h]
theorem ev_c : dC x ρ S = .ok x S := rfl
theorem ev_op {f : AV -> AV -> Store -> Option AV} (ha : da ρ S = .ok x S1) (hb : db ρ S1 = .ok y S2) (hf : f x y S2 = some z) : dOp f da db ρ S = .ok z S2 := by
 unfold dOp
 rw [ha, Res.bind_ok, hb, Res.bind_ok, hf, ofO_some]
theorem ev_nil : dNil ρ S = .ok [] S := rfl
theorem ev_cons (ha : da ρ S = .ok x S1) (hr : dr ρ S1 = .ok xs S2) : dCons da dr ρ S = .ok (x :: xs) S2 := by
 unfold dCons
 rw [ha, Res.bind_ok, hr, Res.bind_ok]
theorem ev_cb {f : List AV -> Store -> Option AV} (hA : dA ρ S = .ok xs S1) (hf : f xs S1 = some z) : dCB f dA ρ S = .ok z S1 := by
 unfold dCB
 rw [hA, Res.bind_ok, hf, ofO_some]
theorem ev_lst (hA : dA ρ S = .ok xs S1) (hl : xs.length <= lim) : dLst dA ρ S = .ok (.lst xs) S1 := by
 unfold dLst
 rw [hA, Res.bind_ok, if_pos hl]
theorem ev_test (ha : da ρ S = .ok (.bl b) S1) : dTest da ρ S = .ok b S1 := by
 unfold dTest
 rw [ha, Res.bind_ok]
 rfl
theorem ev_tru (ha : da ρ S = .ok x S1) (h : truOf S1 x = some b) : dTru da ρ S = .ok b S1 := by
 unfold dTru
 rw [ha, Res.bind_ok, h, ofO_some]
theorem ev_not (ha : dT ρ S = .ok b S1) : dNot dT ρ S = .ok (!b) S1 := by
 unfold dNot
 rw [ha, Res.bind_ok]
theorem ev_call {F : FD} (hA : dA ρ S = .ok avs S1) (hl : avs.length = n) (hF : F avs S1 = .ok v S2) : dCall n F dA ρ S = .ok v S2 := by
 unfold dCall
 rw [hA, Res.bind_ok, if_pos hl, hF]
theorem ev_bm {T : String} {f : MF} (hx : dx ρ S = .ok x S1) (ht : tyA T x S1 = true) (hA : dA ρ S1 = .ok avs S2) (hf : f x avs S2 = some (y, S3)) : dBM T f dx dA ρ S = .ok y S3 := by
 unfold dBM
 rw [hx, Res.bind_ok, if_pos ht, hA, Res.bind_ok]
 simp only [hf]
theorem ev_th {dl : DL} (h : dl ρ S = .ok xs S1) : dTh dl ρ S = .ok (.ref S1.length) (S1 ++ [.lst xs]) := by
 unfold dTh
 rw [h, Res.bind_ok]
theorem ev_fz {dl : DL} (h : dl ρ S = .ok xs S1) : dFz dl ρ S = .ok (.lst xs) S1 := by
 unfold dFz
 rw [h, Res.bind_ok]
theorem ev_lcb {f : List AV -> Store -> Option (List AV)} (hA : dA ρ S = .ok xs S1) (hf : f xs S1 = some ys) : dlCB f dA ρ S = .ok ys S1 := by
 unfold dlCB
 rw [hA, Res.bind_ok, hf, ofO_some]
theorem ev_seq (h : d ρ S = .go (.nx ρ1) S1) : dSeq d d' ρ S = d' ρ1 S1 := by
 unfold dSeq
 rw [h]
theorem ev_asg (he : de ρ S = .ok x S1) (hg : dg x ρ = some ρ1) : dAsg de dg ρ S = .go (.nx ρ1) S1 := by
 unfold dAsg
 rw [he, Res.go_ok, hg]
theorem ev_drop (he : de ρ S = .ok x S1) : dDrop de ρ S = .go (.nx ρ) S1 := by
 unfold dDrop
 rw [he, Res.go_ok]
theorem ev_ret (he : de ρ S = .ok x S1) : dRet de ρ S = .go (.rt x) S1 := by
 unfold dRet
 rw [he, Res.go_ok]
theorem ev_if (ht : dT ρ S = .ok b S1) : dIfS dT d d' ρ S = if b = true then d ρ S1 else d' ρ S1 := by
 unfold dIfS
 rw [ht, Res.go_ok]
theorem ev_ift (ht : dT ρ S = .ok true S1) : dIfS dT d d' ρ S = d ρ S1 := ev_if ht
theorem ev_iff (ht : dT ρ S = .ok false S1) : dIfS dT d d' ρ S = d' ρ S1 := ev_if ht
theorem ev_run (h : d (Dl.envOf n avs) S = .go (.rt v) S1) : runD d n avs S = .ok v S1 := by
 unfold runD
 rw [h]
 rfl
theorem ev_forN {gd : Store -> Bool} (h : gd S = true) : forL gd dg d [] ρ S = .go (.nx ρ) S := by
 unfold forL
 rw [if_pos h]
theorem ev_forC {gd : Store -> Bool} (h : gd S = true) (hg : dg x ρ = some ρ1) (hb : d ρ1 S = .go (.nx ρ2) S2) : forL gd dg d (x :: xs) ρ S = forL gd dg d xs ρ2 S2 := by
 show (if gd S = true then _ else _) = _
 rw [if_pos h, hg]
 simp only [hb]
theorem ev_forCc {gd : Store -> Bool} (h : gd S = true) (hg : dg x ρ = some ρ1) (hb : d ρ1 S = .go (.ct ρ2) S2) : forL gd dg d (x :: xs) ρ S = forL gd dg d xs ρ2 S2 := by
 show (if gd S = true then _ else _) = _
 rw [if_pos h, hg]
 simp only [hb]
theorem ev_for {di : DI} {its : Wk} (hi : di ρ S = .ok its S1) : dFor di dg d ρ S = forL its.gd dg d its.xs ρ S1 := by
 unfold dFor
 rw [hi, Res.go_ok]
theorem forL_inv {gd : Store -> Bool} (I : List AV -> Dl.Env -> Store -> Prop) (hI : ∀ l ρ S, I l ρ S -> gd S = true) (step : ∀ x r ρ S, I (x :: r) ρ S -> ∃ ρ1 ρ2 S2, dg x ρ = some ρ1 /\ (d ρ1 S = .go (.nx ρ2) S2 ∨ d ρ1 S = .go (.ct ρ2) S2) /\ I r ρ2 S2) :
  ∀ l ρ S, I l ρ S -> ∃ ρ2 S2, forL gd dg d l ρ S = .go (.nx ρ2) S2 /\ I [] ρ2 S2
 | [], ρ, S, h => ⟨ρ, S, ev_forN (hI _ _ _ h), h⟩
 | x :: r, ρ, S, h => by
  obtain ⟨ρ1, ρ2, S2, hg, hb, h2⟩ := step x r ρ S h
  obtain ⟨ρ3, S3, e, h3⟩ := forL_inv I hI step r ρ2 S2 h2
  rcases hb with hb | hb
  ·exact ⟨ρ3, S3, (ev_forC (hI _ _ _ h) hg hb).trans e, h3⟩
  ·exact ⟨ρ3, S3, (ev_forCc (hI _ _ _ h) hg hb).trans e, h3⟩
theorem ev_any {its : Wk} (ha : da ρ S = .ok x S1) (h : itsOf S1 x = some its) : diAny da ρ S = .ok its S1 := by
 unfold diAny
 rw [ha, Res.bind_ok, h, ofO_some]
theorem lcL_nil {gd : Store -> Bool} {dt : DT} (h : gd S = true) : lcL gd dg dt de ρ [] S = .ok [] S := by
 unfold lcL
 rw [if_pos h]
theorem lcL_cons {gd : Store -> Bool} {dt : DT} (h : gd S = true) (hg : dg x ρ = some ρ1) (ht : dt ρ1 S = .ok true S1) (he : de ρ1 S1 = .ok y S2) (hr : lcL gd dg dt de ρ xs S2 = .ok ys S3) : lcL gd dg dt de ρ (x :: xs) S = .ok (y :: ys) S3 := by
 show (if gd S = true then _ else _) = _
 rw [if_pos h, hg]
 simp only [ht, Res.nox_ok, Res.bind_ok, if_true, he, hr]
theorem ev_lc {di : DI} {dt : DT} {its : Wk} {vs : List Nat} (hi : di ρ S = .ok its S1) (hl : its.xs.length <= lim) (h : lcL its.gd dg dt de (wipeE ρ vs) its.xs S1 = .ok ys S2) : dlLc di dg dt de vs ρ S = .ok ys S2 := by
 unfold dlLc
 rw [hi, Res.bind_ok, if_pos hl, h]
theorem stL_set_ne {p q : Nat} {o : AO} (h : p ≠ q) : stL (S.set q o) p = stL S p := by
 unfold stL
 rw [core_List_getElem__set_ne_al (Ne.symm h)]
theorem stL_app {G : Store} {q : Nat} (h : stL S q = some xs) : stL (S ++ G) q = some xs := by
 have := stL_lt h
 unfold stL at h ⊢
 rw [core_List_getElem__append_left_al this]
 exact h
theorem ty_lst {q : Nat} (h : stL S q = some xs) : tyA "list" (.ref q) S = true := by
 show (match S[q]? with
  | some (.lst _) => decide (("list" : String) = "list")
  | some (.dic _) => decide (("list" : String) = "dict")
  | _ => false) = true
 rw [stL_eq.mp h]
 rfl
theorem append_ev {q : Nat} (h : stL S q = some xs) (hl : xs.length <= lim) : fAppend (.ref q) [x] S = some (.non, S.set q (.lst (xs ++ [x]))) := by
 show (match stL S q with
  | some xs => if xs.length <= lim then some (AV.non, S.set q (.lst (xs ++ [x]))) else none
  | none => none) = _
 simp only [h, if_pos hl]
end
section
variable {W : WX} {K : PySem.W.Frag} {te tv td ty : TE} {de dv dd dy : DE}
def dLSet (dd dy dv : DE) : DS := fun ρ S => (dv ρ S).go ρ fun v S1 => (dd ρ S1).go ρ fun x S2 => (dy ρ S2).go ρ fun y S3 => match x, y with
 | .ref i, .int n => (match stL S3 i with
  | some xs => (match ixN xs.length n with
   | some j => .go (.nx ρ) (S3.set i (.lst (xs.set j v)))
   | none => .bad)
  | none => .bad)
 | _, _ => .bad
theorem ss_lset {tv ty : TE} {dy dv : DE} (hd : SE W K td dd) (hy : SE W K ty dy) (hv : SE W K tv dv) : SS W K (tAsg tv (gSub td ty rSetL)) (dLSet dd dy dv) := by
 intro ρ S c σ H D hK k e h
 refine hv ρ S c σ H _ hK k e (Res.post_mono (go_post e h) (fun v S1 h1 => ?_) fun _ _ z => z)
 intro c1 H1 uv n1 k1 r1
 have e1 := e.nxt n1
 have hK1 := n1.K.trans hK
 refine hd ρ S1 c1 σ H1 _ hK1 k1 e1 (Res.post_mono (go_post e1 (h1.nxt n1)) (fun x S2 h2 => ?_) fun _ _ z => z)
 intro c2 H2 ux n2 k2 r2
 have e2 := e1.nxt n2
 have hK2 := n2.K.trans hK1
 refine hy ρ S2 c2 σ H2 _ hK2 k2 e2 (Res.post_mono (go_post e2 (h2.nxt n2)) (fun y S3 h3 => ?_) fun _ _ z => z)
 intro c3 H3 uy n3 k3 r3
 have e3 := e2.nxt n3
 have rx := r2.nxt n3
 have rv := (r1.nxt n2).nxt n3
 have h3 := h3.nxt n3
 split at h3
 next =>
  split at h3
  next xs q =>
   split at h3
   next j hj =>
    obtain ⟨a, vs, rfl, ha, hw, rs⟩ := k3.lst_at rx q
    cases r3
    refine ⟨a, vs, _, j, rfl, rfl, hw, by rw [<- rs.len]; exact hj, ?_⟩
    exact (show GoodN c3 H3 D.nx ρ _ from h3) c3 _ σ (k3.nxtSet ha ⟨_, hw, trivial⟩) (k3.setL ha hw (rs.set rv j)) (e3.nxt (k3.nxtSet ha ⟨_, hw, trivial⟩))
   next => exact False.elim h3
  next => exact False.elim h3
 next => exact False.elim h3
end
section
variable {c c' : Co} {H H' : Hp} {W : WX} {K : PySem.W.Frag} {S : Store}
theorem hide_nxt {a : Addr} {o : HO} (ha : H a = none) : Nxt c H (c.hide a) (upd H a o) := by
 have n := Nxt.new (c := c) (o := o) ha
 exact ⟨rfl, rfl, ⟨fun _ h => .inr h, fun b h => h.elim (fun z => .inr (by rw [z]; exact ha)) .inl⟩, ⟨[], by simp [Co.hide], fun _ h => absurd h core_List_not_mem_nil_al⟩, n.keep, n.hkeep, n.tup, n.frz, n.live⟩
theorem hide_cor {a : Addr} {o : HO} (k : Cor c S H) (ha : H a = none) : Cor (c.hide a) S (upd H a o) := by
 have hDn := k.out ha
 have nh : Nxt c H (c.hide a) (upd H a o) := hide_nxt ha
 have ne1 : ∀ b, H b ≠ none -> b ≠ a := fun b h z => h (by rw [z]; exact ha)
 refine ⟨k.len, k.nd, fun b hb z => z.elim (fun z => hDn.1 (by rw [<- z]; exact hb)) (k.apart b hb), fun b hb => ?_, fun i q b e1 e2 => ?_⟩
 ·rcases hb with z | z
  ·rw [z, upd_same]
   simp
  ·exact nh.live b (k.hl b z)
 ·have r := k.at_ i q b e1 e2
  exact r.nxt nh (upd_ne (ne1 b r.isThere))
theorem gone {a : Addr} {o : HO} (k : Cor c S H) (ha : H a = none) (hl : ∀ xs, o ≠ .tup xs) (hf : ∀ q u, o ≠ .frz q u) (n : Nxt (c.hide a) (upd H a o) c' H') (k' : Cor c' S H') :
  Nxt c H (c'.unhide a) (del H' a) /\ Cor (c'.unhide a) S (del H' a) /\ ∀ {x : AV} {u : V}, Rel c' H' x u -> Rel (c'.unhide a) (del H' a) x u := by
 have hDn := k.out ha
 have nh : Nxt c H (c.hide a) (upd H a o) := hide_nxt ha
 have nn := nh.trans n
 have hh : c'.hid a := n.hid.1 a (.inl rfl)
 have hd : H' a = some o := n.hkeep a o (.inl rfl) upd_same
 have htr : a ∉ c'.tr := k'.apart a |> fun f z => f z hh
 have ne1 : ∀ b, H b ≠ none -> b ≠ a := fun b h z => h (by rw [z]; exact ha)
 have h0 : ∀ b, b ≠ a -> del H' a b = H' b := fun b hb => if_neg hb
 have sm : Same2 c' (c'.unhide a) a H' (del H' a) := ⟨rfl, rfl, rfl, fun b _ ho => ⟨fun z => ho.2 (by rw [z]; exact hh), ho.1, fun z => ho.2 z.2⟩, ⟨h0, fun xs z => (by rw [hd] at z; cases z; exact hl _ rfl), fun q u z => (by rw [hd] at z; cases z; exact hf _ _ rfl)⟩⟩
 have nu : Nxt c H (c'.unhide a) (del H' a) := by
  have ou : ∀ b u, H b = some u -> del H' a b = H' b := fun b u z => h0 b (ne1 b (by rw [z]; simp))
  refine ⟨nn.K, nn.ex, ⟨fun b z => ⟨fun w => hDn.2 (by rw [<- w]; exact z), nn.hid.1 b z⟩, fun b z => nn.hid.2 b z.2⟩, nn.tr, fun b u hb z => by rw [ou b u z]; exact nn.keep b u hb z, fun b u hb z => by rw [ou b u z]; exact nn.hkeep b u hb z, fun b u z => by rw [ou b _ z]; exact nn.tup b u z, fun b q u z => by rw [ou b _ z]; exact nn.frz b q u z, fun b z => ?_⟩
  rw [h0 b (ne1 b z)]
  exact nn.live b z
 exact ⟨nu, k'.hid sm (fun b hb z => htr (by rw [<- z]; exact hb)) (fun b hb z => k'.apart b hb z.2) fun b hb => by rw [h0 b hb.1]; exact k'.hl b hb.2, fun r => r.hid sm⟩
theorem exo_tup {e C : Addr} {d : Option Addr} {xs : List V} : exo e C d ≠ .tup xs := fun z => by
 unfold exo at z
 cases z
theorem exo_frz {e C : Addr} {d : Option Addr} {q : Obj} {u : HO} : exo e C d ≠ .frz q u := fun z => by
 unfold exo at z
 cases z
def spXv (K : PySem.W.Frag) (C : Addr) (f : Str) (ok : AV -> Bool) (g : AV -> AV) : Sp := fun vs H Q _ => ∃ (a : Addr) (c : Co) (S : Store) (x : AV) (v : V), vs = [.ref a, v] /\ H a = some (exo a C none) /\ c.K = K /\ c.hid a /\ Cor c S H /\ Rel c H x v /\ ok x = true /\
 ∀ (c' : Co) (H' : Hp) (u : V) (dx : Addr), Nxt c H c' H' -> Cor c' S H' -> Rel c' H' (g x) u -> H' dx = none -> dx ≠ a -> Q .non (upd (upd H' dx (exd dx [(f, u)])) a (exo a C (some dx)))
structure XcN (P : Program) (w : World) (K : PySem.W.Frag) (mg : Str -> Option Value) (base : Heap) (k : Nat) (C f : Str) (ps : List Str) (ok : AV -> Bool) (g : AV -> AV) where
 fI : Addr
 fd : FuncData
 T : OexC K (He.ga K C)
 iC : PySem.W.findIn K (.ref (He.ga K C)) "__init__" = some (some (.ref fI))
 tI : PySem.W.typeIn K (.ref fI) = some (.type "function")
 G : FnOk P w K mg base (L2N.CX P w) k fI fd ps (spXv K (He.ga K C) f ok g)
 b : Binds K fd ps []
 gC : mg C = some (.ref (He.ga K C))
def dRaise (C f : Str) (ok : AV -> Bool) (g : AV -> AV) (dA : DA) : DS := fun ρ S => (dA ρ S).go ρ fun avs S1 => match avs with
 | [x] => if ok x = true then .go (.xc ρ (.exc C [(f, g x)])) S1 else .bad
 | _ => .bad
theorem ss_raiseC {C f : Str} {ok : AV -> Bool} {g : AV -> AV} {tA : TA} {dA : DA} (hA : SA W K tA dA) :
  SS W K (fun _ σ H => tMkO (He.ga K C) (spXv K (He.ga K C) f ok g) [] tA σ H fun cls d H' => W cls d σ H') (dRaise C f ok g dA) := by
 intro ρ S c σ H D hK k e h
 refine hA ρ S c σ H _ hK k e (Res.post_mono (go_post e h) (fun avs S1 h1 => ?_) fun _ _ z => z)
 intro c1 H1 vs n1 k1 rs
 have hK1 := n1.K.trans hK
 split at h1
 next x =>
  split at h1
  next hx =>
   cases rs with
   | @cons _ v _ _ r rs =>
    cases rs
    refine ⟨by show 1 <= 1000; decide, fun a ha => ?_⟩
    refine ⟨a, c1.hide a, S1, x, v, rfl, upd_same, hK1, .inl rfl, hide_cor k1 ha, r.nxt (hide_nxt ha), hx, fun c2 H2 u dx n2 k2 r2 hdx hne => ?_⟩
    obtain ⟨g1, g2, g3⟩ := gone k1 ha (fun _ => exo_tup) (fun _ _ => exo_frz) n2 k2
    have hdx0 : del H2 a dx = none := by
     show (if dx = a then none else H2 dx) = none
     rw [if_neg hne]
     exact hdx
    have hdx1 : H1 dx = none := by
     cases q : H1 dx with
     | none => rfl
     | some o => exact absurd hdx0 (g1.live dx (by rw [q]; simp))
    have eH : upd (del (upd (upd H2 dx (exd dx [(f, u)])) a (exo a (He.ga K C) (some dx))) a) dx (.xd [(f, u)]) = upd (del H2 a) dx (.xd [(f, u)]) := by
     funext b
     by_cases z : b = dx
     ·rw [z, upd_same, upd_same]
     ·rw [upd_ne z, upd_ne z]
      show (if b = a then none else _) = (if b = a then none else _)
      by_cases y : b = a
      ·rw [if_pos y, if_pos y]
      ·rw [if_neg y, if_neg y, upd_ne y, upd_ne z]
    refine ⟨rfl, dx, [(f, u)], upd_same, by rw [upd_ne hne, upd_same], hdx1, ?_⟩
    rw [eH]
    have n3 := Nxt.new (c := c2.unhide a) (o := .xd [(f, u)]) hdx0
    have k3 := g2.new (o := .xd [(f, u)]) hdx0
    refine (show FallS c1 H1 W ρ (.exc C [(f, g x)]) S1 from h1.nxt n1) (c2.unhide a) _ σ _ _ (g1.trans n3) k3 ((e.nxt n1).nxt (g1.trans n3)) ⟨?_, .some upd_same ?_ (.cons ((g3 r2).nxt n3) .nil)⟩
    ·have : (c2.unhide a).K = K := g1.K.trans hK1
     rw [this]
    ·have o1 := g2.out hdx0
     exact ⟨fun z => o1.1 z, o1.2⟩
  next => exact False.elim h1
 next => exact False.elim h1
theorem ss_raise {P : Program} {w : World} {mg : Str -> Option Value} {base : Heap} {k : Nat} {C f : Str} {ps : List Str} {ok : AV -> Bool} {g : AV -> AV} (_ : XcN P w K mg base k C f ps ok g) {tA : TA} {dA : DA} (hA : SA W K tA dA) :
  SS W K (fun _ σ H => tMkO (He.ga K C) (spXv K (He.ga K C) f ok g) [] tA σ H fun cls d H' => W cls d σ H') (dRaise C f ok g dA) := ss_raiseC hA
end
section
variable {c c' : Co} {H H' : Hp} {W : WX} {K : PySem.W.Frag} {S : Store}
def SuiteOk (K : PySem.W.Frag) (W : WX) (C : Str) (i : Nat) (ts : Addr -> Value -> Option Addr -> TS) (su : List (Str × AV) -> DS) : Prop :=
 ∀ (ρ : Env) (S : Store) (c : Co) (σ : L2.St) (H : Hp) (D : Ends) (a : Addr) (fs : List (Str × AV)) (d : Option Addr), c.K = K -> Cor c S H -> EnvR c H ρ σ -> H a = none -> Relx c H fs d -> SP c H W D (su fs ρ S) ->
  ts a (.ref (He.ga K C)) d { nx := fun σ' H' => D.nx (σ'.set i none) H', rt := D.rt, bk := fun σ' H' => D.bk (σ'.set i none) H', ct := fun σ' H' => D.ct (σ'.set i none) H' } (σ.set i (some (.ref a))) H
def dTryAs (C : Str) (ds : DS) (su : List (Str × AV) -> DS) : DS := fun ρ S => match ds ρ S with
 | .go (.xc ρ1 (.exc n fs)) S1 => if n = C then su fs ρ1 S1 else .bad
 | .go (.xc _ _) _ => .bad
 | r => r
theorem ss_tryAs {tb : WX -> TS} {ds : DS} {cc : Value} {i : Nat} {ts : Addr -> Value -> Option Addr -> TS} {Wout : WX} {C : Str} {su : List (Str × AV) -> DS} (hm : PySem.W.exmOne K (.ref (He.ga K C)) cc = some true) (h : ∀ W' : WX, SS W' K (tb W') ds) (hs : SuiteOk K W C i ts su) :
  SS W K (fun D σ H => tb (wAs K cc i ts Wout D) D σ H) (dTryAs C ds su) := by
 intro ρ S c σ H D hK k e p
 refine h _ ρ S c σ H D hK k e ?_
 unfold dTryAs at p
 cases q : ds ρ S with
 | bad =>
  rw [q] at p
  exact p
 | go fl S1 =>
  rw [q] at p
  cases fl with
  | nx ρ1 => exact p
  | rt v => exact p
  | bk ρ1 => exact p
  | ct ρ1 => exact p
  | xc ρ1 ev =>
   cases ev with
   | exc n fs =>
    simp only at p
    split at p
    next hn =>
     subst hn
     show FallS c H (wAs K cc i ts Wout D) ρ1 (.exc n fs) S1
     intro c1 H1 σ1 cls d n1 k1 e1 re
     obtain ⟨rfl, rx⟩ := re
     have hK1 := n1.K.trans hK
     rw [hK1]
     exact ⟨true, hm, fun _ a ha => hs ρ1 S1 c1 σ1 H1 D a fs d hK1 k1 e1 ha rx (p.nxt n1), fun z => by cases z⟩
    next => exact False.elim p
   | _ => exact False.elim p
end
section
variable {P : Program} {w : World} {K : PySem.W.Frag} {mg : Str -> Option Value} {base : Heap}
structure XfN (K : PySem.W.Frag) (C f : Str) : Prop where
 xf : XfC K (He.ga K C)
 nf : PySem.W.findIn K (.ref (He.ga K C)) f = some none
 em : PySem.W.exmOne K (.ref (He.ga K C)) (.ref (He.ga K C)) = some true
end
end Dl
namespace Dn
open PySem PySem.Spec PyProof.Rows L2 Evl Cm Dl
mutual
def copyA : AV -> AV
 | .tup _ xs => .tup false (copyAs xs)
 | .lst xs => .lst (copyAs xs)
 | x => x
def copyAs : List AV -> List AV
 | [] => []
 | x :: xs => copyA x :: copyAs xs
end
mutual
def depA : AV -> Nat
 | .tup _ xs => depAs xs + 1
 | .lst xs => depAs xs + 1
 | _ => 0
def depAs : List AV -> Nat
 | [] => 0
 | x :: xs => max (depA x) (depAs xs)
end
theorem depAs_mem : ∀ {xs : List AV} {x : AV}, x ∈ xs -> depA x <= depAs xs
 | y :: ys, x, h => by
  show depA x <= max (depA y) (depAs ys)
  rcases core_List_mem_cons_al.mp h with rfl | h
  ·exact Nat.le_max_left _ _
  ·exact core_Nat_le_trans_al (depAs_mem h) (Nat.le_max_right _ _)
mutual
def szA : AV -> Bool
 | .tup _ xs => decide (xs.length <= 1000) && szAs xs
 | .lst xs => decide (xs.length <= 1000) && szAs xs
 | _ => true
def szAs : List AV -> Bool
 | [] => true
 | x :: xs => szA x && szAs xs
end
theorem szAs_mem : ∀ {xs : List AV} {x : AV}, szAs xs = true -> x ∈ xs -> szA x = true
 | y :: ys, x, e, h => by
  have e := core_Bool_and_eq_true_iff_al.mp (show (szA y && szAs ys) = true from e)
  rcases core_List_mem_cons_al.mp h with rfl | h
  ·exact e.1
  ·exact szAs_mem e.2 h
theorem isDs_mem' : ∀ {xs : List AV} {x : AV}, isDs xs = true -> x ∈ xs -> x.isD = true
 | y :: ys, x, e, h => by
  have e := core_Bool_and_eq_true_iff_al.mp (show (y.isD && isDs ys) = true from e)
  rcases core_List_mem_cons_al.mp h with rfl | h
  ·exact e.1
  ·exact isDs_mem' e.2 h
end Dn
namespace Dl
open PySem PySem.Spec PyProof.Rows L2 Evl Cm
def lowT : AV -> AV
 | .tup _ xs => .tup false xs
 | x => x
theorem Rel.low {c : Co} {H : Hp} : ∀ {x : AV} {v : V}, Rel c H x v -> Rel c H (lowT x) v
 | .tup p xs, _, .tup h _ r => .tup h (fun z => by cases z) r
 | .non, _, r => r
 | .bl _, _, r => r
 | .int _, _, r => r
 | .str _, _, r => r
 | .lst _, _, r => r
 | .dic _, _, r => r
 | .obj _ _, _, r => r
 | .exc _ _, _, r => r
 | .ref _, _, r => r
 | .opq _, _, r => r
 | .key _, _, r => r
def fTupL (xs : List AV) (S : Store) : Option AV := (fTuple xs S).map lowT
theorem sc_tupL {K : PySem.W.Frag} : SCn K (rTupF K) fTupL := by
 intro xs z S c us H Q hK k rs e q
 obtain ⟨y, hy, rfl⟩ := core_Option_map_eq_some_iff_al.mp e
 exact sc_tuple xs y S c us H Q hK k rs hy fun c1 H1 v n1 k1 r => q c1 H1 v n1 k1 r.low
theorem ev_tupL {ρ : Env} {S S1 : Store} {dA : DA} {xs : List AV} (hA : dA ρ S = .ok xs S1) (hl : xs.length <= lim) : dTup dA ρ S = .ok (.tup false xs) S1 := by
 unfold dTup
 rw [hA, Res.bind_ok, if_pos hl]
section
variable {c c' : Co} {H H' : Hp} {W : WX} {K : PySem.W.Frag} {S : Store}
def SX (W : WX) (K : PySem.W.Frag) (i : Nat) (C : Str) (t : Addr -> Value -> Option Addr -> TE) (d : List (Str × AV) -> DE) : Prop :=
 ∀ (ρ : Env) (S : Store) (c : Co) (σ : L2.St) (H : Hp) (Q : VK) (a : Addr) (fs : List (Str × AV)) (dd : Option Addr), c.K = K -> Cor c S H -> EnvR c H ρ σ -> σ[i]? = some (some (.ref a)) -> Relx c H fs dd ->
  (d fs ρ S).post (Good c H Q) (Fall c H (WE W σ)) -> t a (.ref (He.ga K C)) dd σ H Q
def SXA (W : WX) (K : PySem.W.Frag) (i : Nat) (C : Str) (t : Addr -> Value -> Option Addr -> TA) (d : List (Str × AV) -> DA) : Prop :=
 ∀ (ρ : Env) (S : Store) (c : Co) (σ : L2.St) (H : Hp) (Q : List V -> Hp -> Prop) (a : Addr) (fs : List (Str × AV)) (dd : Option Addr), c.K = K -> Cor c S H -> EnvR c H ρ σ -> σ[i]? = some (some (.ref a)) -> Relx c H fs dd ->
  (d fs ρ S).post (fun xs S' => ∀ c' H' vs, Nxt c H c' H' -> Cor c' S' H' -> Rels c' H' xs vs -> Q vs H') (Fall c H (WE W σ)) -> t a (.ref (He.ga K C)) dd σ H Q
theorem sx_of {i : Nat} {C : Str} {t : TE} {d : DE} (h : SE W K t d) : SX W K i C (fun _ _ _ => t) (fun _ => d) :=
 fun ρ S c σ H Q a fs dd hK k e _ _ p => h ρ S c σ H Q hK k e p
def dXf (f : Str) (fs : List (Str × AV)) : DE := fun _ S => ofO (fs.lookup f) S
theorem sx_xf {i : Nat} {C f : Str} : SX W K i C (fun a cls dd => tXf a cls dd (He.ga K C) f (tVar i)) (dXf f) := by
 intro ρ S c σ H Q a fs dd hK k e hi rx p
 obtain ⟨v, hv, g⟩ := ofO_post p
 cases rx with
 | nil => cases hv
 | @some d2 _ gs hd ho rf =>
  obtain ⟨u, hu, ru⟩ := rf.look hv
  exact ⟨V.ref a, hi, rfl, rfl, d2, gs, u, rfl, hd, hu, g c H u (Nxt.refl c H) k ru⟩
theorem sxa_nil {i : Nat} {C : Str} : SXA W K i C (fun _ _ _ => tNil) (fun _ => dNil) :=
 fun ρ S c σ H Q a fs dd hK k e _ _ p => sa_nil ρ S c σ H Q hK k e p
theorem sxa_cons {i : Nat} {C : Str} {t : Addr -> Value -> Option Addr -> TE} {d : List (Str × AV) -> DE} {tr : Addr -> Value -> Option Addr -> TA} {dr : List (Str × AV) -> DA} (h : SX W K i C t d) (hr : SXA W K i C tr dr) :
  SXA W K i C (fun a cls dd => tCons (t a cls dd) (tr a cls dd)) (fun fs => dCons (d fs) (dr fs)) := by
 intro ρ S c σ H Q a fs dd hK k e hi rx p
 refine h ρ S c σ H _ a fs dd hK k e hi rx (Res.post_mono (Res.post_bind.mp p) (fun x S1 h1 => ?_) fun _ _ z => z)
 intro c1 H1 u n1 k1 r1
 refine hr ρ S1 c1 σ H1 _ a fs dd (n1.K.trans hK) k1 (e.nxt n1) hi (rx.nxt n1) (Res.post_mono (Res.post_bind.mp h1) (fun xs S2 h2 => ?_) fun _ _ z => z.nxt n1)
 intro c2 H2 vs n2 k2 rs
 exact h2 c2 H2 _ (n1.trans n2) k2 (.cons (r1.nxt n2) rs)
theorem sx_tup {i : Nat} {C : Str} {t : Addr -> Value -> Option Addr -> TA} {d : List (Str × AV) -> DA} (h : SXA W K i C t d) : SX W K i C (fun a cls dd => tTup (t a cls dd)) (fun fs => dTup (d fs)) := by
 intro ρ S c σ H Q a fs dd hK k e hi rx p
 refine h ρ S c σ H _ a fs dd hK k e hi rx (Res.post_mono (Res.post_bind.mp p) (fun xs S1 h1 => ?_) fun _ _ z => z)
 split at h1
 next hl =>
  intro c1 H1 vs n1 k1 rs
  refine ⟨by rw [<- rs.len]; exact lim_line hl, fun q hq => ?_⟩
  exact (show Good c H Q _ S1 from h1) c1 _ _ (n1.trans (Nxt.new hq)) (k1.new hq) (new_tup hq rs)
 next => exact False.elim h1
theorem EnvR.veil {ρ : Env} {σ : L2.St} {i : Nat} {y : Option V} (h : EnvR c H ρ σ) : EnvR c H (ρ.set i none) (σ.set i y) := by
 refine ⟨by rw [core_List_length_set_al, core_List_length_set_al]; exact h.1, fun j x hj => ?_⟩
 by_cases z : i = j
 ·subst z
  by_cases hl : i < ρ.length
  ·rw [core_List_getElem__set_self_al hl] at hj
   cases hj
  ·rw [List.getElem?_eq_none (by rw [core_List_length_set_al]; omega)] at hj
   cases hj
 ·rw [core_List_getElem__set_ne_al z] at hj
  obtain ⟨v, hv, r⟩ := h.2 j x hj
  exact ⟨v, by rw [core_List_getElem__set_ne_al z]; exact hv, r⟩
def suRetX (i : Nat) (d : List (Str × AV) -> DE) : List (Str × AV) -> DS := fun fs ρ S => if i < ρ.length then (d fs (ρ.set i none) S).nox.go ρ fun v S1 => .go (.rt v) S1 else .bad
theorem nox_go {α : Type} {r : Res α} {ρ : Env} {kk : α -> Store -> RS} {g : α -> Store -> Prop} {y : AV -> Store -> Prop} {D : Ends} (h : SP c H W D (r.nox.go ρ kk)) (hg : ∀ a S, SP c H W D (kk a S) -> g a S) : r.post g y := by
 cases r with
 | ok a S => exact hg a S h
 | exc e S => exact False.elim h
 | bad => exact False.elim h
theorem su_retX {C : Str} {i : Nat} {t : Addr -> Value -> Option Addr -> TE} {d : List (Str × AV) -> DE} (h : SX W K i C t d) : SuiteOk K W C i (fun a cls dd => tRet (t a cls dd)) (suRetX i d) := by
 intro ρ S c σ H D a fs dd hK k e ha rx p
 unfold suRetX at p
 split at p
 next hl =>
  have hlen : i < σ.length := by rw [<- e.1]; exact hl
  refine h (ρ.set i none) S c (σ.set i (some (.ref a))) H _ a fs dd hK k e.veil (core_List_getElem__set_self_al hlen) rx (nox_go p fun v S1 z => ?_)
  exact z
 next => exact False.elim p
end
section
variable {W : WX} {K : PySem.W.Frag} {c c' : Co} {S : Store} {H H' : Hp} {ta tb : TE} {da db : DE}
def dlAddL (da db : DE) : DL := fun ρ S => (da ρ S).bind fun x S1 => (db ρ S1).bind fun y S2 => match seqL S2 x, seqL S2 y with
 | some xs, some ys => if xs.length + ys.length <= lim then .ok (xs ++ ys) S2 else .bad
 | _, _ => .bad
theorem sl_addL (ha : SE W K ta da) (hb : SE W K tb db) : SEL W K (tOp (rAddA K) ta tb) (dlAddL da db) := by
 intro ρ S c σ H Q hK k e h
 refine ha ρ S c σ H _ hK k e (Res.post_mono (Res.post_bind.mp h) (fun x S1 h1 => ?_) fun _ _ z => z)
 intro c1 H1 u n1 k1 r1
 refine hb ρ S1 c1 σ H1 _ (n1.K.trans hK) k1 (e.nxt n1) (Res.post_mono (Res.post_bind.mp h1) (fun y S2 h2 => ?_) fun _ _ z => z.nxt n1)
 intro c2 H2 v n2 k2 r2
 split at h2
 next xs ys q1 q2 =>
  split at h2
  next hl =>
   obtain ⟨a, vs, rfl, h3, r3⟩ := seqL_at k2 (r1.nxt n2) q1
   obtain ⟨b, us, rfl, h4, r4⟩ := seqL_at k2 r2 q2
   exact .inr (.inr (.inr ⟨a, b, vs, us, rfl, rfl, h3, h4, by rw [<- r3.len, <- r4.len]; exact lim_line hl, fun p hp => h2 c2 H2 _ p (n1.trans n2) k2 hp (r3.app r4)⟩))
  next => exact False.elim h2
 next => exact False.elim h2
theorem ev_addL {ρ : Env} {S1 S2 : Store} {x y : AV} {xs ys : List AV} (ha : da ρ S = .ok x S1) (hb : db ρ S1 = .ok y S2) (h1 : seqL S2 x = some xs) (h2 : seqL S2 y = some ys) (hl : xs.length + ys.length <= lim) : dlAddL da db ρ S = .ok (xs ++ ys) S2 := by
 unfold dlAddL
 rw [ha, Res.bind_ok, hb, Res.bind_ok, h1, h2]
 exact if_pos hl
end
abbrev Cl1 := Value × Option Nat × (Addr -> Value -> Option Addr -> TS)
section
variable {c c' : Co} {H H' : Hp} {W : WX} {K : PySem.W.Frag} {S : Store}
abbrev SuD := List (Str × AV) -> DS
end
end Dl
namespace Dn
open PySem PySem.Spec PyProof.Rows L2 Evl Cm Dl
def idA (x : AV) : AV := x
def smI : AV -> Bool
 | .int i => decide (i.natAbs.log2 < 1920)
 | _ => false
def okS : AV -> Bool
 | .str z => decide (z.length <= 100)
 | _ => false
def d_is_name : DS := (dSeq (dIfS (dOr (dNot (dTest (dIsi "str" (dVar 0)))) (dNot (dTest (dChain fLe fLe (dC (.int 1)) (dCB fLen (dCons (dVar 0) dNil)) (dC (.int 8)))))) (dRet (dC (.bl false))) dNext)
 (dRet (dCB fAll (dCons (dFz (dlLc (diAny (dVar 0)) (dgName 1) dYes (dOp (fIn false) (dVar 1) (dC (.str "abcdefghijklmnopqrstuvwxyz"))) [1])) dNil))))
def F_is_name : FD := runD (d_is_name) 2
def d_Machine_enter : DS := (dSeq (dAsg (dOp fIx (dFld "current" Q9.k (dVar 0)) (dVar 2)) (dgName 3))
 (dSeq (dIfS (dTest (dOp (fIsN false) (dVar 3) (dC .non))) dRetN dNext)
 (dSeq (dAsg (dFld "entries" ["Instance"] (dOp fIx (dFld "instances" Q9.k (dVar 0)) (dVar 3))) (dgName 4))
 (dSeq (dDrop (dBM "list" fAppend (dVar 4) (dCons (dVar 1) dNil)))
 (dIfS (dTest (dOp fGt (dCB fLen (dCons (dVar 4) dNil)) (dFld "most" ["Graph"] (dFld "graph" Q9.k (dVar 0))))) (dRaise "TooMany" "what" okS idA (dCons (dC (.str "entries")) dNil)) dNext)))))
def F_Machine_enter : FD := runD (d_Machine_enter) 5
def d_Machine_fill : DS := (dSeq (dAsg (dOp fIx (dFld "instances" Q9.k (dVar 0)) (dVar 1)) (dgName 3))
 (dSetF "word" ["Instance"] (dGet2 (dFld "carried" Q9.k (dVar 0)) (dFld "module" ["Instance"] (dVar 3)) (dVar 2)) (dVar 3)))
def F_Machine_fill : FD := runD (d_Machine_fill) 4
def d_Machine_listen : DS := (dSeq (dAsg (dVar 2) (dgTup 3 (dgCons (dgName 3) (dgCons (dgName 4) (dgCons (dgName 5) dgNil)))))
 (dSeq (dDrop (dBM "list" fAppend (dFld "listeners" Q9.k (dVar 0)) (dCons (dTup (dCons (dVar 1) (dCons (dVar 4) (dCons (dVar 3) (dCons (dVar 5) dNil))))) dNil)))
 (dIfS (dTest (dOp fGt (dCB fLen (dCons (dFld "listeners" Q9.k (dVar 0)) dNil)) (dFld "most" ["Graph"] (dFld "graph" Q9.k (dVar 0))))) (dRaise "TooMany" "what" okS idA (dCons (dC (.str "listeners")) dNil)) dNext)))
def F_Machine_listen : FD := runD (d_Machine_listen) 6
def d_Machine_do_rows : DS := (dFor (diAny (dVar 2)) (dgName 3)
 (dSeq (dAsg (dOp fIx (dVar 3) (dC (.int 0))) (dgName 4))
 (dIfS (dTest (dOp (fEq false) (dVar 4) (dC (.str "hold")))) (dDPut (dFld "holds" ["Instance"] (dOp fIx (dFld "instances" Q9.k (dVar 0)) (dVar 1))) (dOp fIx (dVar 3) (dC (.int 1))) (dOp fIx (dFld "current" Q9.k (dVar 0)) (dOp fIx (dVar 3) (dC (.int 2))))) (dIfS (dTest (dOp (fEq false) (dVar 4) (dC (.str "enter")))) (dDrop (dMeth "Machine" "enter" 3 F_Machine_enter (dVar 0) (dCons (dVar 1) (dCons (dOp fIx (dVar 3) (dC (.int 1))) dNil)))) (dIfS (dTest (dOp (fEq false) (dVar 4) (dC (.str "cell")))) (dDrop (dMeth "Machine" "fill" 3 F_Machine_fill (dVar 0) (dCons (dVar 1) (dCons (dOp fIx (dVar 3) (dC (.int 1))) dNil)))) (dDrop (dMeth "Machine" "listen" 3 F_Machine_listen (dVar 0) (dCons (dVar 1) (dCons (dVar 3) dNil)))))))))
def rch (links : List (List (Option Int))) : Nat -> List (Option Int) -> List Int -> Option (List Int)
 | 0, _, _ => none
 | n + 1, w, seen => match w[w.length - 1]? with
  | none => some seen
  | some none => rch links n w.dropLast seen
  | some (some i) => if i ∈ seen then rch links n w.dropLast seen else match atI links i with
   | some l => rch links n (w.dropLast ++ l) (seen ++ [i])
   | none => none
theorem fIx_lst {La : List AV} {i : Int} {S : Store} {x : AV} (h : atI La i = some x) : fIx (.lst La) (.int i) S = some x := h
theorem add_lst {xs ys : List AV} {y : AV} {S : Store} (hy : seqL S y = some ys) (hl : xs.length + ys.length <= lim) : fAdd (.lst xs) y S = some (.lst (xs ++ ys)) := by
 show ((seqL S (.lst xs)).bind fun xs => (seqL S y).bind fun ys => if xs.length + ys.length <= lim then some (AV.lst (xs ++ ys)) else none) = _
 rw [show seqL S (.lst xs) = some xs from rfl, hy]
 simp only [Option.bind_some, if_pos hl]
theorem fLen_lst {S : Store} {q : Nat} {xs : List AV} (h : stL S q = some xs) : fLen [.ref q] S = some (.int xs.length) := by
 have hd : stD S q = none := by
  unfold stD
  rw [stL_eq.mp h]
 show (match dicOf S (.ref q) with
  | some ks => some (AV.int ks.length)
  | none => (seqA S (.ref q)).map fun (ys : List AV) => AV.int ys.length) = _
 have h1 : dicOf S (.ref q) = none := hd
 have h2 : seqA S (.ref q) = some xs := h
 simp only [h1, h2]
 rfl
theorem fLen_l (xs : List AV) (S : Store) : fLen [.lst xs] S = some (.int xs.length) := rfl
theorem atI_nat {α : Type} {l : List α} {k : Nat} {x : α} (h : l[k]? = some x) : L2.atI l (k : Nat) = some x := by
 have hk := (core_List_getElem__eq_some_iff_al.mp h).1
 unfold L2.atI
 have : ixN l.length (k : Nat) = some k := by
  unfold ixN
  first
   | (rw [if_neg (by omega), if_pos (by omega)]; simp)
   | (simp; omega)
   | (split <;> simp_all <;> omega)
 rw [this]
 exact h
theorem fIx_ref {S : Store} {q : Nat} {xs : List AV} {i : Int} {x : AV} (h : stL S q = some xs) (hx : L2.atI xs i = some x) : fIx (.ref q) (.int i) S = some x := by
 have hd : dicOf S (.ref q) = none := by
  show stD S q = none
  unfold stD
  rw [stL_eq.mp h]
 have hn : nodOf S (.ref q) = none := by
  show Dl.stN S q = none
  unfold Dl.stN
  rw [stL_eq.mp h]
 show (match dicOf S (.ref q) with
  | some ks => if isKey (.int i) = true then look ks (.int i) else none
  | none => match nodOf S (.ref q), optI (.int i) with
   | some ks, some k => (lookN ks k).map optA
   | some _, none => none
   | none, _ => fIxS (.ref q) (.int i) S) = _
 simp only [hd, hn]
 show (seqA S (.ref q)).bind (fun xs => L2.atI xs i) = _
 rw [show seqA S (.ref q) = some xs from h]
 exact hx
def lisK (b : Bool) : Str := if b = true then "listenheld" else "listen"
def Row.av : Row -> AV
 | .hold s m => .tup false [.str "hold", .str s, .str m]
 | .enter m => .tup false [.str "enter", .str m]
 | .cell w => .tup false [.str "cell", .str w]
 | .lis b e l => .tup false [.str (lisK b), .str e, .str l]
abbrev rowB : DS := (dSeq (dAsg (dOp fIx (dVar 3) (dC (.int 0))) (dgName 4))
 (dIfS (dTest (dOp (fEq false) (dVar 4) (dC (.str "hold")))) (dDPut (dFld "holds" ["Instance"] (dOp fIx (dFld "instances" Q9.k (dVar 0)) (dVar 1))) (dOp fIx (dVar 3) (dC (.int 1))) (dOp fIx (dFld "current" Q9.k (dVar 0)) (dOp fIx (dVar 3) (dC (.int 2))))) (dIfS (dTest (dOp (fEq false) (dVar 4) (dC (.str "enter")))) (dDrop (dMeth "Machine" "enter" 3 F_Machine_enter (dVar 0) (dCons (dVar 1) (dCons (dOp fIx (dVar 3) (dC (.int 1))) dNil)))) (dIfS (dTest (dOp (fEq false) (dVar 4) (dC (.str "cell")))) (dDrop (dMeth "Machine" "fill" 3 F_Machine_fill (dVar 0) (dCons (dVar 1) (dCons (dOp fIx (dVar 3) (dC (.int 1))) dNil)))) (dDrop (dMeth "Machine" "listen" 3 F_Machine_listen (dVar 0) (dCons (dVar 1) (dCons (dVar 3) dNil))))))))
theorem eqv_str (a b : Str) : PyData.eqv (.str a) (.str b) = decide (a = b) := by
 first
  | rfl
  | (simp [PyData.eqv]; done)
  | (unfold PyData.eqv; simp)
theorem depthAll_strs (l : List Str) : PyData.depthAll (pys (l.map AV.str)) = 0 := by
 induction l with
 | nil => rfl
 | cons a l ih =>
  show PyData.depthAll (PyData.str a :: pys (l.map AV.str)) = 0
  simp [PyData.depthAll, PyData.depth, ih]
theorem isDs_strs (l : List Str) : isDs (l.map AV.str) = true := by
 induction l with
 | nil => rfl
 | cons a l ih =>
  show ((AV.str a).isD && isDs (l.map AV.str)) = true
  rw [ih]
  rfl
theorem memV_strs (n : Str) (l : List Str) : memV (.str n) (l.map AV.str) = decide (n ∈ l) := by
 induction l with
 | nil => rfl
 | cons a l ih =>
  show (PyData.eqv (AV.str a).py (AV.str n).py || memV (.str n) (l.map AV.str)) = _
  rw [ih, show PyData.eqv (AV.str a).py (AV.str n).py = decide (a = n) from eqv_str a n]
  by_cases h : a = n
  ·subst h; simp
  ·have h' : ¬ n = a := fun z => h z.symm
   simp [h, h']
theorem fEq_str (neg : Bool) (a b : Str) (S : Store) : fEq neg (.str a) (.str b) S = some (.bl (if neg then !decide (a = b) else decide (a = b))) := by
 show (if min (PyData.str a).depth (PyData.str b).depth <= 64 then some (AV.bl (if neg then !PyData.eqv (.str a) (.str b) else PyData.eqv (.str a) (.str b))) else none) = _
 rw [if_pos (core_Nat_le_trans_al (Nat.min_le_left _ _) (show (PyData.str a).depth <= 64 from by show 0 <= 64; decide)), eqv_str]
theorem ev_forR {gd : Store -> Bool} {dg : DG} {d : DS} {x y : AV} {xs : List AV} {ρ ρ1 : Dl.Env} {S S2 : Store} (h : gd S = true) (hg : dg x ρ = some ρ1) (hb : d ρ1 S = .go (.rt y) S2) : forL gd dg d (x :: xs) ρ S = .go (.rt y) S2 := by
 unfold forL
 rw [if_pos h, hg]
 simp only [hb]
def Ed.av (e : Ed) : AV := .tup false [.tup false (e.imp.map .str), .tup false (e.body.map Row.av), e.acc, e.cle]
def modAV (p : Str × List Ed) : AV := .tup false [.str p.1, .tup false (p.2.map Ed.av)]
def Gr.fs (g : Gr) : List (Str × AV) := [("words", g.words), ("events", g.events), ("modules", .tup false (g.mods.map modAV)), ("top", .str g.top), ("most", .int g.most), ("names", .tup false (g.names.map .str))]
def Gr.av (g : Gr) : AV := .obj "Graph" g.fs
def PM.live (m : PM) : Option (List Int) := rch (m.insts.map PI.links) 3900 m.roots []
structure PM.Small (m : PM) : Prop where
 c : m.cur.length <= 90
 l : m.lis.length <= 90
 i : m.insts.length <= 90
 t : m.tr.length <= 1000
 x : ∀ x ∈ m.insts, x.links.length <= 250
instance (m : PM) : Decidable m.Small := decidable_of_iff (m.cur.length <= 90 /\ m.lis.length <= 90 /\ m.insts.length <= 90 /\ m.tr.length <= 1000 /\ ∀ x ∈ m.insts, x.links.length <= 250) ⟨fun h => ⟨h.1, h.2.1, h.2.2.1, h.2.2.2.1, h.2.2.2.2⟩, fun h => ⟨h.c, h.l, h.i, h.t, h.x⟩⟩
structure Gets (M : Mach) (g : Gr) (src : List Int) : Prop where
 g : M.g = g.av
 s : ∃ p, M.s = .tup p (src.map .int)
theorem lcL_gen {α : Type} {gd : Store -> Bool} {dg : DG} {de : DE} {ρ : Dl.Env} {S : Store} (inj out : α -> AV) (hg : gd S = true) : ∀ l : List α, (∀ a ∈ l, ∃ ρ1, dg (inj a) ρ = some ρ1 /\ de ρ1 S = .ok (out a) S) -> lcL gd dg dYes de ρ (l.map inj) S = .ok (l.map out) S
 | [], _ => lcL_nil hg
 | a :: l, h => by
  obtain ⟨ρ1, h1, h2⟩ := h a core_List_mem_cons_self_al
  exact lcL_cons hg h1 rfl h2 (lcL_gen inj out hg l fun b hb => h b (core_List_mem_cons_of_mem_al _ hb))
theorem ev_chainI {ρ : Dl.Env} {S : Store} {da db dc : DE} {a b c : Int} {f g : AV -> AV -> Store -> Option AV} {p q : Bool} (ha : da ρ S = .ok (.int a) S) (hb : db ρ S = .ok (.int b) S) (hc : dc ρ S = .ok (.int c) S) (hf : f (.int a) (.int b) S = some (.bl p)) (hg : g (.int b) (.int c) S = some (.bl q)) : dChain f g da db dc ρ S = .ok (.bl (p && q)) S := by
 unfold dChain
 rw [ha, Res.bind_ok, hb, Res.bind_ok, hf]
 cases p with
 | true =>
  simp only [Option.bind_some, asB]
  rw [hc, Res.bind_ok, hg]
  rfl
 | false => rfl
theorem ev_andV {ρ : Dl.Env} {S : Store} {da db : DE} {a b : Bool} (ha : da ρ S = .ok (.bl a) S) (hb : a = true -> db ρ S = .ok (.bl b) S) : dAndV da db ρ S = .ok (.bl (a && b)) S := by
 unfold dAndV
 rw [ha, Res.bind_ok]
 cases a with
 | true => exact hb rfl
 | false => rfl
theorem bls_map {α : Type} (f : α -> Bool) : ∀ l : List α, bls (l.map fun a => AV.bl (f a)) = some (l.map f)
 | [] => rfl
 | a :: l => by
  show (bls (l.map fun a => AV.bl (f a))).map (f a :: ·) = _
  rw [bls_map f l]
  rfl
theorem ev_all {α : Type} {ρ : Dl.Env} {S S1 : Store} {de : DE} {f : α -> Bool} {l : List α} (h : de ρ S = .ok (.lst (l.map fun a => .bl (f a))) S1) : dCB fAll (dCons de dNil) ρ S = .ok (.bl (l.all f)) S1 := by
 refine ev_cb (ev_cons h ev_nil) ?_
 show ((seqL S1 (.lst (l.map fun a => AV.bl (f a)))).bind fun ys => (bls ys).map fun bs => AV.bl (bs.all id)) = _
 show (bls (l.map fun a => AV.bl (f a))).map (fun bs => AV.bl (bs.all id)) = _
 rw [bls_map]
 show some (AV.bl ((l.map f).all id)) = _
 rw [List.all_map]
 rfl
theorem ixN_iff {n : Nat} {i : Int} {j : Nat} (h0 : 0 <= i) : ixN n i = some j ↔ i = (j : Int) /\ j < n := by
 unfold ixN
 rw [if_pos h0]
 constructor
 ·intro h
  split at h
  ·cases h
   omega
  ·cases h
 ·rintro ⟨rfl, h⟩
  rw [if_pos (by omega)]
  simp
theorem atI_of {α : Type} {l : List α} {i : Int} (h0 : 0 <= i) : L2.atI l i = l[i.toNat]? := by
 by_cases h : i.toNat < l.length
 ·have : ixN l.length i = some i.toNat := (ixN_iff h0).mpr ⟨by omega, h⟩
  unfold L2.atI
  rw [this]
  rfl
 ·unfold L2.atI
  cases q : ixN l.length i with
  | none =>
   rw [List.getElem?_eq_none (by omega)]
   rfl
  | some j =>
   have := (ixN_iff h0).mp q
   omega
structure Found (links : List (List (Option Int))) (w : List (Option Int)) (seen res : List Int) : Prop where
 w : ∀ i, some i ∈ w -> i ∈ res
 s : ∀ i ∈ seen, i ∈ res
 c : ∀ i ∈ res, i ∈ seen ∨ (0 <= i /\ i < links.length /\ ∀ j, some j ∈ (links[i.toNat]?.getD []) -> j ∈ res)
 nd : seen.Nodup -> res.Nodup
theorem nd_sub {α : Type} [DecidableEq α] : ∀ (l m : List α), l.Nodup -> l ⊆ m -> l.length <= m.length
 | [], _, _, _ => core_Nat_zero_le_al _
 | a :: l, m, nd, h => by
  have hm : a ∈ m := h core_List_mem_cons_self_al
  have nd' := core_List_nodup_cons_al.mp nd
  have := nd_sub l (m.erase a) nd'.2 fun b hb => (List.mem_erase_of_ne fun z => nd'.1 (by rw [<- z]; exact hb)).mpr (h (core_List_mem_cons_of_mem_al _ hb))
  rw [List.length_erase_of_mem hm] at this
  have := List.length_pos_of_mem hm
  rw [core_List_length_cons_al]
  omega
theorem lookS_key : ∀ {l : List (Str × Option Int)} {k : Str}, k ∈ keysS l -> ∃ v, lookS l k = some v
 | p :: r, k, h => by
  unfold lookS
  by_cases e : p.1 = k
  ·exact ⟨p.2, by rw [if_pos e]⟩
  ·rw [if_neg e]
   exact lookS_key ((core_List_mem_cons_al.mp (show k ∈ p.1 :: keysS r from h)).resolve_left (Ne.symm e))
def Row.cost : Row -> Nat
 | .enter _ => 1
 | .lis _ _ _ => 1
 | _ => 0
def costs (rs : List Row) : Nat := (rs.map Row.cost).sum
structure GoodE (names : List Str) (B : Nat) (E : Ed) : Prop where
 imp : ∀ w ∈ E.imp, w ∈ names
 rows : ∀ r ∈ E.body, r.In names
 len : E.body.length <= 6
 cost : costs E.body <= B
structure GoodG (g : Gr) (B : Nat) : Prop where
 top : g.top ∈ g.names
 eds : ∀ p ∈ g.mods, ∀ E ∈ p.2, GoodE g.names B E
 bud : ((g.mods.length * B : Nat) : Int) <= g.most
 len : (g.mods.length : Int) <= g.most
 most : g.most <= 8
structure Lives (m : PM) (res : List Int) : Prop where
 live : m.live = some res
 f : Found (m.insts.map PI.links) m.roots [] res
 len : res.length <= m.insts.length
 inb : ∀ i ∈ res, 0 <= i /\ i < (m.insts.length : Int)
def SrcOk (g : Gr) (src : List Int) : Prop := src.length = g.mods.length /\ ∀ (i : Nat) (e : Int) (p : Str × List Ed), src[i]? = some e -> g.mods[i]? = some p -> 0 <= e /\ e < p.2.length
theorem rngL_map (n : Nat) : rngL 0 n = (List.range n).map fun (k : Nat) => AV.int (k : Int) := by
 unfold rngL
 apply List.map_congr_left
 intro k _
 show AV.int (0 + (k : Int)) = _
 rw [Int.zero_add]
theorem rngL_len0 (n : Nat) : (rngL 0 n).length = n := by rw [rngL_map, core_List_length_map_al, List.length_range]
theorem cutA_take {xs : List AV} {i : Nat} : cutA xs none (some (i : Int)) = xs.take i := by
 unfold cutA HT.sIx
 simp
 rw [if_neg (by omega)]
 omega
theorem ev_or {ρ : Dl.Env} {S : Store} {dT dU : DT} {a b : Bool} (ha : dT ρ S = .ok a S) (hb : a = false -> dU ρ S = .ok b S) : dOr dT dU ρ S = .ok (a || b) S := by
 unfold dOr
 rw [ha, Res.bind_ok]
 cases a with
 | true => rfl
 | false => exact hb rfl
theorem ev_andT {ρ : Dl.Env} {S : Store} {dT dU : DT} {a b : Bool} (ha : dT ρ S = .ok a S) (hb : a = true -> dU ρ S = .ok b S) : dAnd dT dU ρ S = .ok (a && b) S := by
 unfold dAnd
 rw [ha, Res.bind_ok]
 cases a with
 | true => exact hb rfl
 | false => rfl
theorem az_mem : ∀ c : Nat, 97 <= c -> c <= 122 -> c ∈ AZ.cps.toList := fun c h1 h2 => by
 have := az_at (c - 97) (by omega)
 rw [show 97 + (c - 97) = c by omega] at this
 exact core_List_mem_of_getElem__al this
theorem ev_seqr {ρ : Dl.Env} {S S1 : Store} {d d' : DS} {x : AV} (h : d ρ S = .go (.rt x) S1) : dSeq d d' ρ S = .go (.rt x) S1 := by
 unfold dSeq
 rw [h]
abbrev strsA (l : List Str) : AV := .tup false (l.map .str)
def cellsOk : Bool -> List Row -> Prop
 | _, [] => True
 | b, r :: rs => (r.isCell = true -> b = false) /\ cellsOk (b || r.isCell) rs
def Acc.av : Acc -> AV
 | .self => .tup false [.str "self"]
 | .imp n rows => .tup false [.str n, .tup false (rows.map Row.av)]
def Acc.key : Acc -> Str
 | .self => "self"
 | .imp n _ => n
def Cle.av : Cle -> AV
 | .unlisten => .tup false [.str "unlisten"]
 | .carry => .tup false [.str "carry"]
 | .leave n => .tup false [.str "leave", .str n]
structure GoodEd (names events words : List Str) (own : Str) (E : Ed) : Prop where
 imp : ∀ w ∈ E.imp, w ∈ names /\ w ≠ own
 nd : E.imp.Nodup
 len : E.body.length <= 6
 rows : ∀ r ∈ E.body, r.Ok E.imp events words
 cells : cellsOk false E.body
 acc : ∃ accs : List Acc, E.acc = .tup false (accs.map Acc.av) /\ accs.length <= 1000 /\ (∀ a ∈ accs, a.Ok E.imp events words) /\ (accs.map Acc.key).Nodup
 cle : ∃ cs : List Cle, E.cle = .tup false (cs.map Cle.av) /\ cs.length <= 4 /\ ∀ a ∈ cs, a.Ok E.imp
structure GoodM (words events : List Str) (g : Gr) : Prop where
 len : 1 <= g.mods.length /\ g.mods.length <= 4
 nm : ∀ n ∈ g.names, IsName n /\ n ≠ "self"
 nd : g.names.Nodup
 cnt : ∀ p ∈ g.mods, 1 <= p.2.length /\ p.2.length <= 3
 eds : ∀ p ∈ g.mods, ∀ E ∈ p.2, GoodEd g.names events words p.1 E
structure GoodP (words events : List Str) (g : Gr) : Prop where
 m : GoodM words events g
 w : g.words = strsA words
 e : g.events = strsA events
 wl : 1 <= words.length /\ words.length <= 3
 el : events.length <= 2
 wn : ∀ z ∈ words, IsName z
 en : ∀ z ∈ events, IsName z
 wd : words.Nodup
 ed : events.Nodup
 top : g.top ∈ g.names
 most : 2 <= g.most /\ g.most <= 8
def d__law_draw : DS := (dSeq (dIfS (dAnd (dTest (dOp (fEq false) (dOp fIx (dVar 0) (dC (.int 2))) (dC (.int 0)))) (dTest (dOp fGt (dCB fLen (dCons (dOp fIx (dVar 0) (dC (.int 0))) dNil)) (dC (.int 0))))) (dSeq (dAsg (dOp fIx (dVar 0) (dC (.int 0))) (dgName 2))
 (dSeq (dLSet (dVar 0) (dC (.int 2)) (dOp fIx (dVar 2) (dC (.int 0))))
 (dLSet (dVar 0) (dC (.int 0)) (dSl (dVar 2) (dSo (dC (.int 1))) dNo)))) dNext)
 (dSeq (dIfS (dTest (dOp fGt (dOp fIx (dVar 0) (dC (.int 2))) (dC (.int 0)))) (dSeq (dAsg (dOp fMod (dCB fInt (dCons (dOp fIx (dVar 0) (dC (.int 2))) dNil)) (dVar 1)) (dgName 3))
 (dSeq (dLSet (dVar 0) (dC (.int 2)) (dOp fDiv (dOp fIx (dVar 0) (dC (.int 2))) (dVar 1)))
 (dRet (dVar 3)))) dNext)
 (dSeq (dLSet (dVar 0) (dC (.int 3)) (dOp fAdd (dOp fIx (dVar 0) (dC (.int 3))) (dC (.int 1))))
 (dSeq (dAsg (dC (.int 0)) (dgName 4))
 (dSeq (dIfS (dTest (dOp fGt (dCB fLen (dCons (dOp fIx (dVar 0) (dC (.int 1))) dNil)) (dC (.int 0)))) (dAsg (dOp fIx (dOp fIx (dVar 0) (dC (.int 1))) (dOp fMod (dCB fInt (dCons (dOp fIx (dVar 0) (dC (.int 3))) dNil)) (dCB fLen (dCons (dOp fIx (dVar 0) (dC (.int 1))) dNil)))) (dgName 4)) dNext)
 (dSeq (dAsg (dOp fMod (dCB fInt (dCons (dOp fMul (dOp fAdd (dOp fAdd (dVar 4) (dOp fMul (dC (.int 7919)) (dOp fIx (dVar 0) (dC (.int 3))))) (dC (.int 1))) (dC (.int 48271))) dNil)) (dC (.int 2147483647))) (dgName 5))
 (dSeq (dAsg (dOp fMod (dCB fInt (dCons (dOp fMul (dVar 5) (dOp fAdd (dOp fDiv (dVar 5) (dC (.int 1009))) (dC (.int 69621)))) dNil)) (dC (.int 2147483647))) (dgName 5))
 (dSeq (dAsg (dOp fMod (dCB fInt (dCons (dOp fMul (dVar 5) (dOp fAdd (dOp fDiv (dVar 5) (dC (.int 2003))) (dC (.int 40692)))) dNil)) (dC (.int 2147483399))) (dgName 5))
 (dRet (dOp fMod (dCB fInt (dCons (dOp fDiv (dVar 5) (dC (.int 16))) dNil)) (dVar 1)))))))))))
def F__law_draw : FD := runD (d__law_draw) 6
def d__law_pick : DS := (dRet (dOp fIx (dVar 1) (dCall 2 F__law_draw (dCons (dVar 0) (dCons (dCB fLen (dCons (dVar 1) dNil)) dNil)))))
def F__law_pick : FD := runD (d__law_pick) 2
def d__law_name : DS := (dSeq (dAsg (dC (.str "abcdefghijklmnopqrstuvwxyz")) (dgName 2))
 (dSeq (dAsg (dOp fAdd (dC (.int 1)) (dCall 2 F__law_draw (dCons (dVar 0) (dCons (dC (.int 8)) dNil)))) (dgName 3))
 (dSeq (dAsg (dOp fIx (dVar 2) (dCall 2 F__law_draw (dCons (dVar 0) (dCons (dOp fSub (dC (.int 26)) (dCB fInt (dCons (dOp (fEq false) (dVar 3) (dC (.int 8))) dNil))) dNil)))) (dgName 4))
 (dSeq (dFor (diRng1 (dCons (dOp fSub (dVar 3) (dC (.int 1))) dNil)) (dgName 5)
 (dAsg (dOp fAdd (dVar 4) (dOp fIx (dVar 2) (dCall 2 F__law_draw (dCons (dVar 0) (dCons (dC (.int 26)) dNil))))) (dgName 4)))
 (dSeq (dIfS (dOr (dTest (dOp (fIn false) (dVar 4) (dVar 1))) (dTest (dOp (fEq false) (dVar 4) (dC (.str "self"))))) (dRet (dOp fAdd (dC (.str "zzzzzzz")) (dOp fIx (dVar 2) (dCB fLen (dCons (dVar 1) dNil))))) dNext)
 (dRet (dVar 4)))))))
def F__law_name : FD := runD (d__law_name) 6
def d__law_names : DS := (dSeq (dAsg (dTh (dlLst dNil)) (dgName 2))
 (dSeq (dFor (diRng1 (dCons (dVar 1) dNil)) (dgName 3)
 (dDrop (dBM "list" fAppend (dVar 2) (dCons (dCall 2 F__law_name (dCons (dVar 0) (dCons (dVar 2) dNil))) dNil))))
 (dRet (dVar 2))))
def F__law_names : FD := runD (d__law_names) 4
def d__law_same (Fr : FD) : DS := (dSeq (dIfS (dTest (dIsi "tuple" (dVar 1))) (dSeq (dIfS (dOr (dNot (dTest (dIsi "tuple" (dVar 0)))) (dTest (dOp (fEq true) (dCB fLen (dCons (dVar 0) dNil)) (dCB fLen (dCons (dVar 1) dNil))))) (dRet (dC (.bl false))) dNext)
 (dRet (dCB fAll (dCons (dFz (dlLc (diZip (dCons (dVar 0) (dCons (dVar 1) dNil))) (dgTup 2 (dgCons (dgName 2) (dgCons (dgName 3) dgNil))) dYes (dCall 2 Fr (dCons (dVar 2) (dCons (dVar 3) dNil))) [2, 3])) dNil)))) dNext)
 (dSeq (dIfS (dTest (dIsi "list" (dVar 1))) (dSeq (dIfS (dOr (dNot (dTest (dIsi "list" (dVar 0)))) (dTest (dOp (fEq true) (dCB fLen (dCons (dVar 0) dNil)) (dCB fLen (dCons (dVar 1) dNil))))) (dRet (dC (.bl false))) dNext)
 (dRet (dCB fAll (dCons (dFz (dlLc (diZip (dCons (dVar 0) (dCons (dVar 1) dNil))) (dgTup 2 (dgCons (dgName 2) (dgCons (dgName 3) dgNil))) dYes (dCall 2 Fr (dCons (dVar 2) (dCons (dVar 3) dNil))) [2, 3])) dNil)))) dNext)
 (dSeq (dIfS (dTest (dOp (fIsN false) (dVar 1) (dC .non))) (dRet (dOp (fIsN false) (dVar 0) (dC .non))) dNext)
 (dSeq (dIfS (dTest (dIsi "bool" (dVar 1))) (dRet (dAndV (dIsi "bool" (dVar 0)) (dOp (fEq false) (dVar 0) (dVar 1)))) dNext)
 (dSeq (dIfS (dTest (dIsi "int" (dVar 1))) (dRet (dAndV (dIsi "int" (dVar 0)) (dAndV (dNotV (dIsi "bool" (dVar 0))) (dOp (fEq false) (dVar 0) (dVar 1))))) dNext)
 (dRet (dAndV (dIsi "str" (dVar 0)) (dOp (fEq false) (dVar 0) (dVar 1)))))))))
def F__law_same (Fr : FD) : FD := runD (d__law_same Fr) 4
def Fsame : Nat -> FD
 | 0 => fun _ _ => .bad
 | n + 1 => F__law_same (Fsame n)
theorem Go.rfl' {p : Nat} {S : Store} (h : Pool S p) : Go p S S := ⟨core_Nat_le_refl_al _, fun _ _ _ => rfl, h⟩
theorem Go.stL {p : Nat} {S S' : Store} (g : Go p S S') {q : Nat} {xs : List AV} (h : Dl.stL S q = some xs) (hq : q ≠ p) : Dl.stL S' q = some xs := by
 have hl := stL_lt h
 exact stL_eq.mpr ((g.same q hq hl).trans (stL_eq.mp h))
theorem Go.app {p : Nat} {S : Store} {o : AO} (h : Pool S p) : Go p S (S ++ [o]) := by
 obtain ⟨gr, sm, n, k, h⟩ := h
 refine ⟨by rw [core_List_length_append_al]; omega, fun q _ hl => ?_, gr, sm, n, k, stL_app h⟩
 rw [core_List_getElem__append_left_al hl]
theorem Go.setQ {p q : Nat} {S : Store} {o : AO} (h : Pool S p) (hq : q ≠ p) : (∀ S0, Go p S0 S -> S0.length <= q -> Go p S0 (S.set q o)) := fun S0 g hl =>
 ⟨by rw [core_List_length_set_al]; exact g.len, fun r hr hrl => by rw [core_List_getElem__set_ne_al (by omega)]; exact g.same r hr hrl, by
  obtain ⟨gr, sm, n, k, h⟩ := h
  exact ⟨gr, sm, n, k, (stL_set_ne (Ne.symm hq)).trans h⟩⟩
theorem ev_lset {ρ : Dl.Env} {S S1 S2 S3 : Store} {dd dy dv : DE} {v : AV} {i j : Nat} {n : Int} {xs : List AV} (hv : dv ρ S = .ok v S1) (hd : dd ρ S1 = .ok (.ref i) S2) (hy : dy ρ S2 = .ok (.int n) S3) (hs : Dl.stL S3 i = some xs) (hj : ixN xs.length n = some j) : dLSet dd dy dv ρ S = .go (.nx ρ) (S3.set i (.lst (xs.set j v))) := by
 unfold dLSet
 rw [hv]
 show Dl.Res.go (dd ρ S1) ρ _ = _
 rw [hd]
 show Dl.Res.go (dy ρ S2) ρ _ = _
 rw [hy]
 show (match Dl.stL S3 i with
  | some xs => (match ixN xs.length n with
   | some j => (RS.go (.nx ρ) (S3.set i (.lst (xs.set j v))))
   | none => RS.bad)
  | none => RS.bad) = _
 rw [hs]
 simp only [hj]
theorem ix_c {ρ : Dl.Env} {S : Store} {p : Nat} {xs : List AV} {i : Int} {x : AV} (h0 : ρ[0]? = some (some (.ref p))) (h : Dl.stL S p = some xs) (hx : L2.atI xs i = some x) : dOp fIx (dVar 0) (dC (.int i)) ρ S = .ok x S := ev_op (ev_vrx h0) ev_c (fIx_ref h hx)
theorem eq_int {ρ : Dl.Env} {S S1 : Store} {d : DE} {a : Int} (b : Int) (h : d ρ S = .ok (.int a) S1) : dTest (dOp (fEq false) d (dC (.int b))) ρ S = .ok (decide (a = b)) S1 := by
 refine ev_test (ev_op h ev_c ?_)
 show (if min (PyData.int a).depth (PyData.int b).depth <= 64 then some (AV.bl (PyData.eqv (.int a) (.int b))) else none) = _
 have hd : min (PyData.int a).depth (PyData.int b).depth <= 64 := core_Nat_le_trans_al (Nat.min_le_left _ _) (show (PyData.int a).depth <= 64 by simp [PyData.depth])
 rw [if_pos hd]
 rfl
theorem gt_int {ρ : Dl.Env} {S S1 : Store} {d : DE} {a : Int} (b : Int) (h : d ρ S = .ok (.int a) S1) : dTest (dOp fGt d (dC (.int b))) ρ S = .ok (decide (b < a)) S1 := ev_test (ev_op h ev_c rfl)
theorem fMod_ok {i j : Int} {S : Store} (h : 0 < j) : fMod (.int i) (.int j) S = some (.int (i % j)) := if_pos (core_decide_eq_true_al h)
theorem fDiv_ok {i j : Int} {S : Store} (h : 0 < j) (h' : j < 1073741824) : fDiv (.int i) (.int j) S = some (.int (i / j)) := if_pos (show (decide (0 < j) && decide (j < 1073741824)) = true by rw [core_decide_eq_true_al h, core_decide_eq_true_al h']; rfl)
theorem fMul_l {i j : Int} {S : Store} (h : -(2 ^ 64) < i) (h' : i < 2 ^ 64) : fMul (.int i) (.int j) S = some (.int (i * j)) := if_pos (by unfold mulB; rw [core_decide_eq_true_al h, core_decide_eq_true_al h']; rfl)
theorem fMul_r {i j : Int} {S : Store} (h : -(2 ^ 64) < j) (h' : j < 2 ^ 64) : fMul (.int i) (.int j) S = some (.int (i * j)) := if_pos (by unfold mulB; rw [core_decide_eq_true_al h, core_decide_eq_true_al h']; exact Bool.or_true _)
theorem int1 {ρ : Dl.Env} {S S1 : Store} {d : DE} {a : Int} (h : d ρ S = .ok (.int a) S1) : dCB fInt (dCons d dNil) ρ S = .ok (.int a) S1 := ev_cb (xs := [.int a]) (ev_cons h ev_nil) rfl
theorem mod_ok {i j : Int} (h : 0 < j) : 0 <= i % j /\ i % j < j := ⟨Int.emod_nonneg _ (by omega), Int.emod_lt_of_pos _ h⟩
def d_draw2 : DS := (dSeq (dIfS (dTest (dOp fGt (dOp fIx (dVar 0) (dC (.int 2))) (dC (.int 0)))) (dSeq (dAsg (dOp fMod (dCB fInt (dCons (dOp fIx (dVar 0) (dC (.int 2))) dNil)) (dVar 1)) (dgName 3))
 (dSeq (dLSet (dVar 0) (dC (.int 2)) (dOp fDiv (dOp fIx (dVar 0) (dC (.int 2))) (dVar 1)))
 (dRet (dVar 3)))) dNext)
 (dSeq (dLSet (dVar 0) (dC (.int 3)) (dOp fAdd (dOp fIx (dVar 0) (dC (.int 3))) (dC (.int 1))))
 (dSeq (dAsg (dC (.int 0)) (dgName 4))
 (dSeq (dIfS (dTest (dOp fGt (dCB fLen (dCons (dOp fIx (dVar 0) (dC (.int 1))) dNil)) (dC (.int 0)))) (dAsg (dOp fIx (dOp fIx (dVar 0) (dC (.int 1))) (dOp fMod (dCB fInt (dCons (dOp fIx (dVar 0) (dC (.int 3))) dNil)) (dCB fLen (dCons (dOp fIx (dVar 0) (dC (.int 1))) dNil)))) (dgName 4)) dNext)
 (dSeq (dAsg (dOp fMod (dCB fInt (dCons (dOp fMul (dOp fAdd (dOp fAdd (dVar 4) (dOp fMul (dC (.int 7919)) (dOp fIx (dVar 0) (dC (.int 3))))) (dC (.int 1))) (dC (.int 48271))) dNil)) (dC (.int 2147483647))) (dgName 5))
 (dSeq (dAsg (dOp fMod (dCB fInt (dCons (dOp fMul (dVar 5) (dOp fAdd (dOp fDiv (dVar 5) (dC (.int 1009))) (dC (.int 69621)))) dNil)) (dC (.int 2147483647))) (dgName 5))
 (dSeq (dAsg (dOp fMod (dCB fInt (dCons (dOp fMul (dVar 5) (dOp fAdd (dOp fDiv (dVar 5) (dC (.int 2003))) (dC (.int 40692)))) dNil)) (dC (.int 2147483399))) (dgName 5))
 (dRet (dOp fMod (dCB fInt (dCons (dOp fDiv (dVar 5) (dC (.int 16))) dNil)) (dVar 1))))))))))
theorem draw3 {S : Store} {p : Nat} {m : Int} (hm : 0 < m) {gr sm : List Int} {n k : Int} {g z3 : Option AV} {a : Int} (h : Dl.stL S p = some (pl gr sm n k)) :
  ∃ r, (dSeq (dAsg (dOp fMod (dCB fInt (dCons (dOp fMul (dOp fAdd (dOp fAdd (dVar 4) (dOp fMul (dC (.int 7919)) (dOp fIx (dVar 0) (dC (.int 3))))) (dC (.int 1))) (dC (.int 48271))) dNil)) (dC (.int 2147483647))) (dgName 5))
 (dSeq (dAsg (dOp fMod (dCB fInt (dCons (dOp fMul (dVar 5) (dOp fAdd (dOp fDiv (dVar 5) (dC (.int 1009))) (dC (.int 69621)))) dNil)) (dC (.int 2147483647))) (dgName 5))
 (dSeq (dAsg (dOp fMod (dCB fInt (dCons (dOp fMul (dVar 5) (dOp fAdd (dOp fDiv (dVar 5) (dC (.int 2003))) (dC (.int 40692)))) dNil)) (dC (.int 2147483399))) (dgName 5))
 (dRet (dOp fMod (dCB fInt (dCons (dOp fDiv (dVar 5) (dC (.int 16))) dNil)) (dVar 1)))))) [some (.ref p), some (.int m), g, z3, some (.int a), none] S = .go (.rt (.int r)) S /\ 0 <= r /\ r < m := by
 obtain ⟨n1, e1⟩ : ∃ x : Int, x = ((a + 7919 * k) + 1) * 48271 % 2147483647 := ⟨_, rfl⟩
 have b1 : 0 <= n1 /\ n1 < 2147483647 := e1 ▸ mod_ok (by decide)
 obtain ⟨n2, e2⟩ : ∃ x : Int, x = n1 * (n1 / 1009 + 69621) % 2147483647 := ⟨_, rfl⟩
 have b2 : 0 <= n2 /\ n2 < 2147483647 := e2 ▸ mod_ok (by decide)
 obtain ⟨n3, e3⟩ : ∃ x : Int, x = n2 * (n2 / 2003 + 40692) % 2147483399 := ⟨_, rfl⟩
 refine ⟨(n3 / 16) % m, ?_, mod_ok hm⟩
 refine (ev_seq (ρ1 := [some (.ref p), some (.int m), g, z3, some (.int a), some (.int n1)]) (S1 := S) (ev_asg (x := .int n1) ?_ rfl)).trans ?_
 ·refine ev_op (int1 (a := ((a + 7919 * k) + 1) * 48271) (ev_op (ev_op (ev_op (ev_vrx rfl) (ev_op ev_c (ix_c rfl h rfl) (fMul_l (by decide) (by decide))) rfl) ev_c rfl) ev_c (fMul_r (by decide) (by decide)))) ev_c ?_
  rw [e1]; exact fMod_ok (by decide)
 refine (ev_seq (ρ1 := [some (.ref p), some (.int m), g, z3, some (.int a), some (.int n2)]) (S1 := S) (ev_asg (x := .int n2) ?_ rfl)).trans ?_
 ·refine ev_op (int1 (a := n1 * (n1 / 1009 + 69621)) (ev_op (x := .int n1) (y := .int (n1 / 1009 + 69621)) (ev_vrx rfl) (ev_op (ev_op (x := .int n1) (ev_vrx rfl) ev_c (fDiv_ok (by decide) (by decide))) ev_c rfl) (fMul_l (by omega) (by omega)))) ev_c ?_
  rw [e2]; exact fMod_ok (by decide)
 refine (ev_seq (ρ1 := [some (.ref p), some (.int m), g, z3, some (.int a), some (.int n3)]) (S1 := S) (ev_asg (x := .int n3) ?_ rfl)).trans ?_
 ·refine ev_op (int1 (a := n2 * (n2 / 2003 + 40692)) (ev_op (x := .int n2) (y := .int (n2 / 2003 + 40692)) (ev_vrx rfl) (ev_op (ev_op (x := .int n2) (ev_vrx rfl) ev_c (fDiv_ok (by decide) (by decide))) ev_c rfl) (fMul_l (by omega) (by omega)))) ev_c ?_
  rw [e3]; exact fMod_ok (by decide)
 exact ev_ret (ev_op (int1 (ev_op (x := .int n3) (ev_vrx rfl) ev_c (fDiv_ok (by decide) (by decide)))) (ev_vrx rfl) (fMod_ok hm))
theorem draw2 {S : Store} {p : Nat} {m : Int} (hm : 0 < m) (hm2 : m < 1073741824) {gr sm : List Int} {n k : Int} {g : Option AV} (h : Dl.stL S p = some (pl gr sm n k)) :
  ∃ r S', d_draw2 [some (.ref p), some (.int m), g, none, none, none] S = .go (.rt (.int r)) S' /\ 0 <= r /\ r < m /\ Go p S S' := by
 let ρ0 : Dl.Env := [some (.ref p), some (.int m), g, none, none, none]
 have t0 : dTest (dOp fGt (dOp fIx (dVar 0) (dC (.int 2))) (dC (.int 0))) ρ0 S = .ok (decide (0 < n)) S := gt_int 0 (ix_c rfl h rfl)
 by_cases hn : 0 < n
 ·rw [core_decide_eq_true_al hn] at t0
  let ρ1 : Dl.Env := [some (.ref p), some (.int m), g, some (.int (n % m)), none, none]
  refine ⟨n % m, S.set p (.lst (pl gr sm (n / m) k)), ?_, (mod_ok hm).1, (mod_ok hm).2, Go.set h⟩
  refine ev_seqr ((ev_ift t0).trans ?_)
  refine (ev_seq (ρ1 := ρ1) (S1 := S) (ev_asg (x := .int (n % m)) (ev_op (int1 (ix_c rfl h rfl)) (ev_vrx rfl) (fMod_ok hm)) rfl)).trans ?_
  refine (ev_seq (ρ1 := ρ1) (S1 := S.set p (.lst (pl gr sm (n / m) k))) (ev_lset (v := .int (n / m)) (ev_op (ix_c rfl h rfl) (ev_vrx rfl) (fDiv_ok hm hm2)) (ev_vrx rfl) ev_c h (j := 2) rfl)).trans ?_
  exact ev_ret (ev_vrx rfl)
 ·rw [core_decide_eq_false_al hn] at t0
  let S1 : Store := S.set p (.lst (pl gr sm n (k + 1)))
  have h1 : Dl.stL S1 p = some (pl gr sm n (k + 1)) := stL_set_same (stL_lt h)
  let ρ4 : Int -> Dl.Env := fun a => [some (.ref p), some (.int m), g, none, some (.int a), none]
  have hd : ∃ a, (dSeq (dIfS (dTest (dOp fGt (dCB fLen (dCons (dOp fIx (dVar 0) (dC (.int 1))) dNil)) (dC (.int 0)))) (dAsg (dOp fIx (dOp fIx (dVar 0) (dC (.int 1))) (dOp fMod (dCB fInt (dCons (dOp fIx (dVar 0) (dC (.int 3))) dNil)) (dCB fLen (dCons (dOp fIx (dVar 0) (dC (.int 1))) dNil)))) (dgName 4)) dNext) dNext) (ρ4 0) S1 = .go (.nx (ρ4 a)) S1 := by
   have hlen : dCB fLen (dCons (dOp fIx (dVar 0) (dC (.int 1))) dNil) (ρ4 0) S1 = .ok (.int sm.length) S1 := by
    refine ev_cb (xs := [.lst (sm.map .int)]) (ev_cons (ix_c rfl h1 rfl) ev_nil) ?_
    rw [fLen_l, core_List_length_map_al]
   have t1 := gt_int 0 hlen
   by_cases hs : (0 : Int) < sm.length
   ·rw [core_decide_eq_true_al hs] at t1
    have hlt := mod_ok (i := k + 1) hs
    have hj : ((k + 1) % (sm.length : Int)).toNat < sm.length := by omega
    have hat : L2.atI (sm.map AV.int) ((k + 1) % (sm.length : Int)) = some (.int (sm[((k + 1) % (sm.length : Int)).toNat])) := by
     rw [atI_of hlt.1, core_List_getElem__map_al, core_List_getElem__eq_getElem_al hj]
     rfl
    refine ⟨sm[((k + 1) % (sm.length : Int)).toNat], ?_⟩
    refine (ev_seq (ρ1 := ρ4 (sm[((k + 1) % (sm.length : Int)).toNat])) (S1 := S1) ((ev_ift t1).trans (ev_asg (ev_op (ix_c rfl h1 rfl) (ev_op (int1 (ix_c rfl h1 rfl)) hlen (fMod_ok hs)) (fIx_lst hat)) rfl))).trans rfl
   ·rw [core_decide_eq_false_al hs] at t1
    exact ⟨0, (ev_seq (ρ1 := ρ4 0) (S1 := S1) ((ev_iff t1).trans rfl)).trans rfl⟩
  obtain ⟨a, ha⟩ := hd
  obtain ⟨r, hr, b1, b2⟩ := draw3 (S := S1) (p := p) hm (g := g) (z3 := none) (a := a) h1
  refine ⟨r, S1, ?_, b1, b2, Go.set h⟩
  refine (ev_seq (ρ1 := ρ0) (S1 := S) ((ev_iff t0).trans rfl)).trans ?_
  refine (ev_seq (ρ1 := ρ0) (S1 := S1) (ev_lset (v := .int (k + 1)) (ev_op (ix_c rfl h rfl) ev_c rfl) (ev_vrx rfl) ev_c h (j := 3) rfl)).trans ?_
  refine (ev_seq (ρ1 := ρ4 0) (S1 := S1) (ev_asg ev_c rfl)).trans ?_
  refine (ev_seq (ρ1 := ρ4 a) (S1 := S1) ?_).trans hr
  ·have := ha
   unfold dSeq at this
   revert this
   generalize (dIfS _ _ _ : DS) (ρ4 0) S1 = out
   intro this
   cases out with
   | go o S2 =>
    cases o <;> first
     | exact this
     | cases this
   | _ => cases this
theorem draw_ev {S : Store} {p : Nat} {m : Int} (hm : 0 < m) (hm2 : m < 1073741824) (h : Pool S p) : ∃ r S', F__law_draw [.ref p, .int m] S = .ok (.int r) S' /\ 0 <= r /\ r < m /\ Go p S S' := by
 obtain ⟨gr, sm, n, k, h⟩ := h
 let ρ0 : Dl.Env := [some (.ref p), some (.int m), none, none, none, none]
 have tn : dTest (dOp (fEq false) (dOp fIx (dVar 0) (dC (.int 2))) (dC (.int 0))) ρ0 S = .ok (decide (n = 0)) S := eq_int 0 (ix_c rfl h rfl)
 have hlen : dCB fLen (dCons (dOp fIx (dVar 0) (dC (.int 0))) dNil) ρ0 S = .ok (.int gr.length) S := by
  refine ev_cb (xs := [.lst (gr.map .int)]) (ev_cons (ix_c rfl h rfl) ev_nil) ?_
  rw [fLen_l, core_List_length_map_al]
 have t0 := ev_andT (b := decide ((0 : Int) < gr.length)) tn fun _ => gt_int 0 hlen
 have fin : ∀ {g : Option AV} {S1 : Store}, (∃ r S', d_draw2 [some (.ref p), some (.int m), g, none, none, none] S1 = .go (.rt (.int r)) S' /\ 0 <= r /\ r < m /\ Go p S1 S') -> Go p S S1 -> d__law_draw ρ0 S = d_draw2 [some (.ref p), some (.int m), g, none, none, none] S1 -> ∃ r S', F__law_draw [.ref p, .int m] S = .ok (.int r) S' /\ 0 <= r /\ r < m /\ Go p S S' := by
  intro g S1 ⟨r, S', e, b1, b2, go⟩ g1 he
  exact ⟨r, S', ev_run (n := 6) (he.trans e), b1, b2, g1.trans go⟩
 cases gr with
 | nil =>
  rw [show decide ((0 : Int) < ([] : List Int).length) = false from rfl, Bool.and_false] at t0
  exact fin (draw2 hm hm2 h) (Go.rfl' ⟨_, _, _, _, h⟩) (ev_seq (ρ1 := ρ0) (S1 := S) ((ev_iff t0).trans rfl))
 | cons x gr =>
  by_cases hn : n = 0
  ·rw [core_decide_eq_true_al hn, core_decide_eq_true_al (show (0 : Int) < (x :: gr).length by simp), Bool.and_self] at t0
   let S1 : Store := S.set p (.lst (pl (x :: gr) sm x k))
   let S2 : Store := S1.set p (.lst (pl gr sm x k))
   have h1 : Dl.stL S1 p = some (pl (x :: gr) sm x k) := stL_set_same (stL_lt h)
   have h2 : Dl.stL S2 p = some (pl gr sm x k) := stL_set_same (stL_lt h1)
   let ρ1 : Dl.Env := [some (.ref p), some (.int m), some (.lst ((x :: gr).map .int)), none, none, none]
   have hcut : cutA ((x :: gr).map AV.int) (some 1) none = gr.map .int := by
    unfold cutA
    have e1 : HT.sIx ((x :: gr).map AV.int).length 0 (some 1) = 1 := by simp [HT.sIx]
    have e2 : HT.sIx ((x :: gr).map AV.int).length ((x :: gr).map AV.int).length none = gr.length + 1 := by simp [HT.sIx]
    rw [e1, e2]
    simp only [core_List_map_cons_al, List.drop_succ_cons, List.drop_zero, Nat.add_sub_cancel]
    exact List.take_of_length_le (by rw [core_List_length_map_al]; exact core_Nat_le_refl_al _)
   refine fin (draw2 hm hm2 h2) ((Go.set h).trans (Go.set h1)) (ev_seq (ρ1 := ρ1) (S1 := S2) ((ev_ift t0).trans ?_))
   refine (ev_seq (ρ1 := ρ1) (S1 := S) (ev_asg (ix_c rfl h rfl) rfl)).trans ?_
   refine (ev_seq (ρ1 := ρ1) (S1 := S1) (ev_lset (v := .int x) (ev_op (x := .lst ((x :: gr).map .int)) (ev_vrx rfl) ev_c (fIx_lst (atI_nat (k := 0) rfl))) (ev_vrx rfl) ev_c h (j := 2) rfl)).trans ?_
   refine ev_lset (v := .lst (gr.map .int)) ?_ (ev_vrx rfl) ev_c h1 (j := 0) rfl
   show Dl.ofO (some (AV.lst (cutA ((x :: gr).map AV.int) (some 1) none))) S1 = _
   rw [hcut]
   rfl
  ·rw [core_decide_eq_false_al hn, Bool.false_and] at t0
   exact fin (draw2 hm hm2 h) (Go.rfl' ⟨_, _, _, _, h⟩) (ev_seq (ρ1 := ρ0) (S1 := S) ((ev_iff t0).trans rfl))
theorem pick_ev {S : Store} {p : Nat} {x : AV} {xs : List AV} (h : Pool S p) (hl : 0 < xs.length) (hb : (xs.length : Int) < 1073741824) (hL : fLen [x] S = some (.int xs.length)) (hI : ∀ S' i y, Go p S S' -> L2.atI xs i = some y -> fIx x (.int i) S' = some y) :
  ∃ y ∈ xs, ∃ S', F__law_pick [.ref p, x] S = .ok y S' /\ Go p S S' := by
 obtain ⟨r, S', e, h0, h1, go⟩ := draw_ev (m := xs.length) (by omega) hb h
 have hlt : r.toNat < xs.length := by omega
 refine ⟨xs[r.toNat], List.getElem_mem hlt, S', ?_, go⟩
 refine ev_run (n := 2) (ev_ret (ev_op (x := x) (y := .int r) (ev_vrx rfl) (ev_call (avs := [.ref p, .int xs.length]) (ev_cons (ev_vrx rfl) (ev_cons (ev_cb (xs := [x]) (ev_cons (ev_vrx rfl) ev_nil) hL) ev_nil)) rfl e) (hI S' r _ go ?_)))
 rw [atI_of h0, core_List_getElem__eq_getElem_al hlt]
theorem pick_ref {S : Store} {p q : Nat} {xs : List AV} (h : Pool S p) (hq : q ≠ p) (hs : Dl.stL S q = some xs) (hl : 0 < xs.length) (hb : (xs.length : Int) < 1073741824) : ∃ y ∈ xs, ∃ S', F__law_pick [.ref p, .ref q] S = .ok y S' /\ Go p S S' :=
 pick_ev h hl hb (fLen_lst hs) fun S' i y go ha => fIx_ref (go.stL hs hq) ha
theorem pick_lst {S : Store} {p : Nat} {xs : List AV} (h : Pool S p) (hl : 0 < xs.length) (hb : (xs.length : Int) < 1073741824) : ∃ y ∈ xs, ∃ S', F__law_pick [.ref p, .lst xs] S = .ok y S' /\ Go p S S' :=
 pick_ev h hl hb (fLen_l xs S) fun S' i y go ha => fIx_lst ha
theorem in_ref {S : Store} {q : Nat} (neg : Bool) (n : Str) (l : List Str) (h : Dl.stL S q = some (l.map .str)) : fIn neg (.str n) (.ref q) S = some (.bl (if neg then !decide (n ∈ l) else decide (n ∈ l))) := by
 have hd : dicOf S (.ref q) = none := by
  show stD S q = none
  unfold stD
  rw [stL_eq.mp h]
 show (match dicOf S (.ref q) with
  | some ks => if isKey (.str n) then some (AV.bl (if neg then !(look ks (.str n)).isSome else (look ks (.str n)).isSome)) else none
  | none => fInS neg (.str n) (.ref q) S) = _
 rw [hd]
 show ((seqA S (.ref q)).bind fun ys => if (AV.str n).isD && isDs ys && decide (min (PyData.depthAll (pys ys)) (AV.str n).py.depth <= 64) then some (AV.bl (if neg then !memV (.str n) ys else memV (.str n) ys)) else none) = _
 rw [show seqA S (.ref q) = some (l.map AV.str) from h, Option.bind_some, isDs_strs, depthAll_strs, memV_strs]
 rfl
theorem az_fix {i : Int} (h0 : 0 <= i) (h1 : i < 26) {S : Store} : fIx (.str AZ) (.int i) S = some (.str ⟨#[97 + i.toNat]⟩) := by
 show (L2.atI AZ.cps.toList i).map (fun n => AV.str ⟨#[n]⟩) = _
 rw [atI_of h0, az_at i.toNat (by omega)]
 rfl
theorem zed_list (i : Nat) : (zed i).cps.toList = [122, 122, 122, 122, 122, 122, 122, 97 + i] := by
 show ((("zzzzzzz" : Str).cps) ++ #[97 + i]).toList = _
 rw [Array.toList_append]
 rfl
theorem zed_inj {i j : Nat} (h : zed i = zed j) : i = j := by
 have h1 := congrArg (fun z : Str => z.cps.toList) h
 simp only [zed_list, List.cons.injEq, true_and, and_true] at h1
 omega
theorem Nms.snoc {l : List Str} (h : Nms l) {z : Str} (hz : (Drawn z /\ z ∉ l) ∨ (z = zed l.length /\ l.length < 26)) : Nms (l ++ [z]) := by
 have hn : z ∉ l := by
  rcases hz with ⟨_, h1⟩ | ⟨rfl, hl⟩
  ·exact h1
  ·intro hm
   obtain ⟨i, hi⟩ := core_List_mem_iff_getElem__al.mp hm
   have hlt := (core_List_getElem__eq_some_iff_al.mp hi).1
   rcases h.at_ i _ hi with d | ⟨e, _⟩
   ·refine d.fst (zed_len _) ?_
    rw [zed_list]
    rfl
   ·have := zed_inj e
    omega
 refine ⟨core_List_nodup_append_al.mpr ⟨h.nd, (by simp), fun a ha b hb => ?_⟩, fun i y hi => ?_⟩
 ·have hb : b = z := by simpa using hb
  rw [hb]
  exact fun e => hn (e ▸ ha)
 ·by_cases hl : i < l.length
  ·rw [core_List_getElem__append_left_al hl] at hi
   exact h.at_ i y hi
  ·rw [core_List_getElem__append_right_al (by omega)] at hi
   have hi0 : i - l.length = 0 := by
    have := (core_List_getElem__eq_some_iff_al.mp hi).1
    have : i - l.length < 1 := this
    omega
   rw [hi0] at hi
   have : y = z := by simpa using hi.symm
   subst this
   rcases hz with ⟨d, _⟩ | ⟨e, h26⟩
   ·exact .inl d
   ·have : i = l.length := by omega
    rw [this]
    exact .inr ⟨e, h26⟩
theorem head_app {a b : Str} {c : Nat} (h : a.cps.toList.head? = some c) : (a ++ b).cps.toList.head? = some c := by
 show (a.cps ++ b.cps).toList.head? = _
 rw [Array.toList_append]
 cases ha : a.cps.toList with
 | nil => rw [ha] at h; cases h
 | cons x xs => rw [ha] at h; exact h
theorem name_ev {S : Store} {p q : Nat} {l : List Str} (h : Pool S p) (hq : q ≠ p) (hs : Dl.stL S q = some (l.map .str)) (hl : l.length < 26) :
  ∃ z S', F__law_name [.ref p, .ref q] S = .ok (.str z) S' /\ Go p S S' /\ ((Drawn z /\ z ∉ l) ∨ (z = zed l.length /\ l.length < 26)) := by
 let N : Option AV := none
 let ρ1 : Dl.Env := [some (.ref p), some (.ref q), some (.str AZ), N, N, N]
 obtain ⟨r1, S1, e1, a1, b1, g1⟩ := draw_ev (m := 8) (by decide) (by decide) h
 let sz : Int := 1 + r1
 let ρ2 : Dl.Env := [some (.ref p), some (.ref q), some (.str AZ), some (.int sz), N, N]
 obtain ⟨r2, S2, e2, a2, b2, g2⟩ := draw_ev (m := 26 - (if decide (sz = 8) = true then 1 else 0)) (by split <;> decide) (by split <;> decide) g1.pool
 have b2' : r2 < 26 /\ (sz = 8 -> r2 < 25) := by
  refine ⟨by split at b2 <;> omega, fun e => ?_⟩
  rw [core_decide_eq_true_al e, if_pos rfl] at b2
  omega
 let w0 : Str := ⟨#[97 + r2.toNat]⟩
 let E : Str -> Option AV -> Dl.Env := fun w k => [some (.ref p), some (.ref q), some (.str AZ), some (.int sz), some (.str w), k]
 have g12 := g1.trans g2
 have lp := forL_inv (gd := fun _ => true) (dg := dgName 5) (d := dAsg (dOp fAdd (dVar 4) (dOp fIx (dVar 2) (dCall 2 F__law_draw (dCons (dVar 0) (dCons (dC (.int 26)) dNil))))) (dgName 4))
  (fun L ρ T => ∃ w k, ρ = E w k /\ Go p S T /\ w.length + L.length = sz.toNat /\ (∀ c ∈ w.cps.toList, 97 <= c /\ c <= 122) /\ w.cps.toList.head? = some (97 + r2.toNat))
  (fun _ _ _ _ => rfl) (fun x r ρ T ⟨w, k, hρ, go, hlen, haz, hd⟩ => by
   subst hρ
   obtain ⟨r3, T3, e3, a3, b3, g3⟩ := draw_ev (m := 26) (by decide) (by decide) go.pool
   have hlen : w.length + (r.length + 1) = sz.toNat := hlen
   refine ⟨E w (some x), E (w ++ ⟨#[97 + r3.toNat]⟩) (some x), T3, rfl, .inl ?_, _, some x, rfl, go.trans g3, ?_, name_add haz ⟨by omega, by omega⟩, head_app hd⟩
   ·refine ev_asg (x := .str (w ++ ⟨#[97 + r3.toNat]⟩)) (ev_op (x := .str w) (y := .str ⟨#[97 + r3.toNat]⟩) (ev_vrx rfl) (ev_op (x := .str AZ) (ev_vrx rfl) (ev_call (avs := [.ref p, .int 26]) (ev_cons (ev_vrx rfl) (ev_cons ev_c ev_nil)) rfl e3) (az_fix a3 b3)) ?_) rfl
    show (if w.length + 1 <= strMax then some (AV.str (w ++ ⟨#[97 + r3.toNat]⟩)) else none) = _
    rw [if_pos (by unfold strMax; omega)]
   ·rw [strLen_append]
    show w.length + 1 + r.length = _
    omega) (rngL 0 (sz - 1).toNat) (E w0 N) S2 ⟨w0, N, rfl, g12, by
    rw [rngL_len]
    show 1 + (sz - 1).toNat = sz.toNat
    omega, by
    intro c hc
    have : c = 97 + r2.toNat := by simpa [w0] using hc
    omega, rfl⟩
 obtain ⟨ρ3, S3, e3, w, k, rfl, g3, hlen, haz, hd⟩ := lp
 have hlen : w.length = sz.toNat := hlen
 have hnm : IsName w := ⟨by omega, by omega, haz⟩
 have run : ∀ {x : AV}, (dSeq (dIfS (dOr (dTest (dOp (fIn false) (dVar 4) (dVar 1))) (dTest (dOp (fEq false) (dVar 4) (dC (.str "self"))))) (dRet (dOp fAdd (dC (.str "zzzzzzz")) (dOp fIx (dVar 2) (dCB fLen (dCons (dVar 1) dNil))))) dNext) (dRet (dVar 4))) (E w k) S3 = .go (.rt x) S3 -> F__law_name [.ref p, .ref q] S = .ok x S3 := by
  intro x hx
  refine ev_run (n := 6) ?_
  show d__law_name [some (.ref p), some (.ref q), N, N, N, N] S = _
  refine (ev_seq (ρ1 := ρ1) (S1 := S) (ev_asg ev_c rfl)).trans ?_
  refine (ev_seq (ρ1 := ρ2) (S1 := S1) (ev_asg (x := .int sz) (ev_op (x := .int 1) (y := .int r1) ev_c (ev_call (avs := [.ref p, .int 8]) (ev_cons (ev_vrx rfl) (ev_cons ev_c ev_nil)) rfl e1) rfl) rfl)).trans ?_
  refine (ev_seq (ρ1 := E w0 N) (S1 := S2) (ev_asg (x := .str w0) (ev_op (x := .str AZ) (y := .int r2) (ev_vrx rfl) (ev_call (avs := [.ref p, .int (26 - (if decide (sz = 8) = true then 1 else 0))]) (ev_cons (ev_vrx rfl) (ev_cons (ev_op (x := .int 26) (y := .int (if decide (sz = 8) = true then 1 else 0)) ev_c (ev_cb (xs := [.bl (decide (sz = 8))]) (ev_cons ?_ ev_nil) rfl) rfl) ev_nil)) rfl e2) (az_fix a2 b2'.1)) rfl)).trans ?_
  ·have t := eq_int (d := dVar 3) (ρ := ρ2) (S := S1) (a := sz) 8 (ev_vrx rfl)
   refine ev_op (x := .int sz) (y := .int 8) (ev_vrx rfl) ev_c ?_
   have hd : min (PyData.int sz).depth (PyData.int 8).depth <= 64 := core_Nat_le_trans_al (Nat.min_le_left _ _) (show (PyData.int sz).depth <= 64 by simp [PyData.depth])
   show (if min (PyData.int sz).depth (PyData.int 8).depth <= 64 then some (AV.bl (PyData.eqv (.int sz) (.int 8))) else none) = _
   rw [if_pos hd]
   rfl
  refine (ev_seq (ρ1 := E w k) (S1 := S3) ((ev_for (its := ⟨rngL 0 (sz - 1).toNat, fun _ => true⟩) (S1 := S2) ?_).trans e3)).trans hx
  have hr : rngB (sz - 1) = true := by
   unfold rngB
   rw [core_decide_eq_true_al (by omega), core_decide_eq_true_al (by omega)]
   rfl
  show Dl.Res.bind (dCons (dOp fSub (dVar 3) (dC (.int 1))) dNil (E w0 N) S2) _ = _
  rw [ev_cons (x := .int (sz - 1)) (ev_op (x := .int sz) (y := .int 1) (ev_vrx rfl) ev_c rfl) ev_nil]
  show Dl.ofO (if rngB (sz - 1) then some (Wk.mk (rngL 0 (sz - 1).toNat) fun _ => true) else none) S2 = _
  rw [if_pos hr]
  rfl
 have hs3 := g3.stL hs hq
 have tt := ev_or (b := decide (w = "self")) (ev_test (ev_op (ρ := E w k) (S := S3) (da := dVar 4) (db := dVar 1) (ev_vrx rfl) (ev_vrx rfl) (in_ref false w l hs3))) (fun _ => ev_test (ev_op (da := dVar 4) (db := dC (.str "self")) (ev_vrx rfl) ev_c (fEq_str false w "self" S3)))
 rw [if_neg Bool.false_ne_true] at tt
 by_cases hc : w ∈ l ∨ w = "self"
 ·have hb : (decide (w ∈ l) || decide (w = "self")) = true := by
   rcases hc with hc | hc
   ·rw [core_decide_eq_true_al hc]; rfl
   ·rw [core_decide_eq_true_al hc]; exact Bool.or_true _
  refine ⟨zed l.length, S3, run (x := .str (zed l.length)) ?_, g3, .inr ⟨rfl, hl⟩⟩
  refine ev_seqr ((ev_ift (tt.trans (by rw [hb]))).trans ?_)
  refine ev_ret (ev_op (x := .str "zzzzzzz") (y := .str ⟨#[97 + l.length]⟩) ev_c (ev_op (x := .str AZ) (y := .int l.length) (ev_vrx rfl) (ev_cb (xs := [.ref q]) (ev_cons (ev_vrx rfl) ev_nil) ((fLen_lst hs3).trans (by rw [core_List_length_map_al]))) ((az_fix (by omega) (by omega)).trans rfl)) rfl)
 ·have hb : (decide (w ∈ l) || decide (w = "self")) = false := by
   rw [core_decide_eq_false_al fun h => hc (.inl h), core_decide_eq_false_al fun h => hc (.inr h)]
   rfl
  refine ⟨w, S3, run (x := .str w) ?_, g3, .inl ⟨⟨hnm, fun h => hc (.inr h), fun h8 => ?_⟩, fun h => hc (.inl h)⟩⟩
  ·exact (ev_seq ((ev_iff (tt.trans (by rw [hb]))).trans rfl)).trans (ev_ret (ev_vrx rfl))
  ·rw [hd]
   have := b2'.2 (by omega)
   intro h
   have : 97 + r2.toNat = 122 := by simpa using h
   omega
theorem Pool.lt {S : Store} {p : Nat} (h : Pool S p) : p < S.length := by
 obtain ⟨_, _, _, _, h⟩ := h
 exact stL_lt h
theorem stL_new {S : Store} {xs : List AV} : Dl.stL (S ++ [.lst xs]) S.length = some xs := stL_eq.mpr (by rw [core_List_getElem__append_right_al (core_Nat_le_refl_al _), Nat.sub_self]; rfl)
theorem th_nil {ρ : Dl.Env} {S : Store} : dTh (dlLst dNil) ρ S = .ok (.ref S.length) (S ++ [.lst []]) := ev_th rfl
theorem rng_its {ρ : Dl.Env} {S S1 : Store} {d : DE} {n : Int} (h : d ρ S = .ok (.int n) S1) (h0 : -1000000000 <= n) (h1 : n < 1000000000) : diRng1 (dCons d dNil) ρ S = .ok ⟨rngL 0 n.toNat, fun _ => true⟩ S1 := by
 have hr : rngB n = true := by
  unfold rngB
  rw [core_decide_eq_true_al (by omega), core_decide_eq_true_al (by omega)]
  rfl
 show Dl.Res.bind (dCons d dNil ρ S) _ = _
 rw [ev_cons h ev_nil]
 show Dl.ofO (if rngB n then some (Wk.mk (rngL 0 n.toNat) fun _ => true) else none) S1 = _
 rw [if_pos hr]
 rfl
theorem app_ev {ρ : Dl.Env} {T T1 : Store} {i q : Nat} {xs : List AV} {y : AV} {de : DE} (hi : ρ[i]? = some (some (.ref q))) (hs : Dl.stL T q = some xs) (he : de ρ T = .ok y T1) (hs1 : Dl.stL T1 q = some xs) (hl : xs.length <= 1000) : dDrop (dBM "list" fAppend (dVar i) (dCons de dNil)) ρ T = .go (.nx ρ) (T1.set q (.lst (xs ++ [y]))) :=
 ev_drop (ev_bm (ev_vrx hi) (ty_lst hs) (ev_cons he ev_nil) (append_ev hs1 (by unfold lim; omega)))
theorem names_ev {S : Store} {p : Nat} {c : Int} (h : Pool S p) (h0 : 0 <= c) (h1 : c <= 20) :
  ∃ l S', F__law_names [.ref p, .int c] S = .ok (.ref S.length) S' /\ Go p S S' /\ Dl.stL S' S.length = some (l.map .str) /\ l.length = c.toNat /\ Nms l := by
 let N : Option AV := none
 let q := S.length
 have hp := h.lt
 have hq : q ≠ p := by omega
 let E : Option AV -> Dl.Env := fun k => [some (.ref p), some (.int c), some (.ref q), k]
 let S0 : Store := S ++ [.lst []]
 have g0 : Go p S S0 := Go.app h
 obtain ⟨ρ3, S3, e3, l, k, rfl, hs, g3, hlen, hN⟩ := forL_inv (gd := fun _ => true) (dg := dgName 3) (d := dDrop (dBM "list" fAppend (dVar 2) (dCons (dCall 2 F__law_name (dCons (dVar 0) (dCons (dVar 2) dNil))) dNil)))
  (fun L ρ T => ∃ (l : List Str) (k : Option AV), ρ = E k /\ Dl.stL T q = some (l.map .str) /\ Go p S T /\ l.length + L.length = c.toNat /\ Nms l)
  (fun _ _ _ _ => rfl) (fun x r ρ T ⟨l, k, hρ, hs, go, hlen, hN⟩ => by
   subst hρ
   have hlen : l.length + (r.length + 1) = c.toNat := hlen
   obtain ⟨z, T1, e, g, hz⟩ := name_ev go.pool hq hs (by omega)
   have hs1 := g.stL hs hq
   refine ⟨E (some x), E (some x), T1.set q (.lst (l.map .str ++ [.str z])), rfl, .inl (app_ev rfl hs (ev_call (avs := [.ref p, .ref q]) (ev_cons (ev_vrx rfl) (ev_cons (ev_vrx rfl) ev_nil)) rfl e) hs1 (by rw [core_List_length_map_al]; omega)), l ++ [z], some x, rfl, ?_, ?_, ?_, hN.snoc hz⟩
   ·rw [stL_set_same (stL_lt hs1), core_List_map_append_al]
    rfl
   ·exact Go.setQ g.pool hq _ (go.trans g) (core_Nat_le_refl_al _)
   ·rw [core_List_length_append_al]
    show l.length + 1 + r.length = _
    omega) (rngL 0 c.toNat) (E N) S0 ⟨[], N, rfl, stL_new, g0, by rw [rngL_len]; exact Nat.zero_add _, ⟨List.nodup_nil, fun i z hz => by cases hz⟩⟩
 refine ⟨l, S3, ?_, g3, hs, hlen, hN⟩
 refine ev_run (n := 4) ?_
 show d__law_names [some (.ref p), some (.int c), N, N] S = _
 refine (ev_seq (ρ1 := E N) (S1 := S0) (ev_asg th_nil rfl)).trans ?_
 refine (ev_seq (ρ1 := E k) (S1 := S3) ((ev_for (rng_its (ev_vrx rfl) (by omega) (by omega))).trans e3)).trans ?_
 exact ev_ret (ev_vrx rfl)
structure Ct (p : Nat) (S : Store) (qe qs qw : Nat) (ev sl wd : List Str) : Prop where
 pool : Pool S p
 e : Dl.stL S qe = some (ev.map .str)
 en : qe ≠ p
 s : Dl.stL S qs = some (sl.map .str)
 sn : qs ≠ p
 w : Dl.stL S qw = some (wd.map .str)
 wn : qw ≠ p
 el : ev.length <= 1000
 sl1 : 0 < sl.length
 sl2 : sl.length <= 1000
 wl1 : 0 < wd.length
 wl2 : wd.length <= 1000
 nm : ∀ z ∈ sl, IsName z
 nz : ∀ z ∈ sl, NoZ z
theorem lcL_each {gd : Store -> Bool} {dg : DG} {de : DE} {ρ : Dl.Env} (J : Store -> Prop) (Q : AV -> AV -> Prop) (gg : ∀ T, J T -> gd T = true) : ∀ (xs : List AV) (T : Store), J T -> (∀ x ∈ xs, ∀ T, J T -> ∃ ρ1 y T', dg x ρ = some ρ1 /\ de ρ1 T = .ok y T' /\ Q x y /\ J T') ->
  ∃ ys T', lcL gd dg dYes de ρ xs T = .ok ys T' /\ J T' /\ ys.length = xs.length /\ ∀ (i : Nat) (x y : AV), xs[i]? = some x -> ys[i]? = some y -> Q x y
 | [], T, hJ, _ => ⟨[], T, lcL_nil (gg T hJ), hJ, rfl, fun i x y h => by cases h⟩
 | x :: xs, T, hJ, h => by
  obtain ⟨ρ1, y, T1, hg, he, hq, h1⟩ := h x (core_List_mem_cons_self_al ..) T hJ
  obtain ⟨ys, T2, e, h2, hl, hat⟩ := lcL_each J Q gg xs T1 h1 fun z hz => h z (core_List_mem_cons_of_mem_al _ hz)
  refine ⟨y :: ys, T2, lcL_cons (gg T hJ) hg rfl he e, h2, by rw [core_List_length_cons_al, core_List_length_cons_al, hl], fun i a b ha hb => ?_⟩
  cases i with
  | zero => cases ha; cases hb; exact hq
  | succ i => exact hat i a b ha hb
def cpB : Bool -> AV -> AV
 | true, x => copyA x
 | false, x => x
theorem cpB_map (b : Bool) : ∀ xs : List AV, (match b with | true => copyAs xs | false => xs) = xs.map (cpB b)
 | [] => by cases b <;> rfl
 | x :: xs => by
  have := cpB_map b xs
  cases b with
  | true =>
   show copyA x :: copyAs xs = copyA x :: xs.map (cpB true)
   rw [<- this]
  | false =>
   show x :: xs = x :: xs.map (cpB false)
   rw [<- this]
theorem cpB_tup (b p : Bool) (xs : List AV) : ∃ q, cpB b (.tup p xs) = .tup q (xs.map (cpB b)) := by
 cases b with
 | true => exact ⟨false, by rw [<- cpB_map]; rfl⟩
 | false => exact ⟨p, by rw [<- cpB_map]; rfl⟩
theorem cpB_lst (b : Bool) (xs : List AV) : cpB b (.lst xs) = .lst (xs.map (cpB b)) := by
 cases b with
 | true => rw [<- cpB_map]; rfl
 | false => rw [<- cpB_map]; rfl
theorem zipd_self (f : AV -> AV) : ∀ xs : List AV, zipd (xs.map f) xs = xs.map fun z => .tup false [f z, z]
 | [] => rfl
 | x :: xs => by
  show AV.tup false [f x, x] :: zipd (xs.map f) xs = _
  rw [zipd_self f xs]
  rfl
theorem isi_ev {ρ : Dl.Env} {S : Store} {T : String} {i : Nat} {z : AV} {b : Bool} (h : ρ[i]? = some (some z)) (ht : isTy T S z = some b) : dIsi T (dVar i) ρ S = .ok (.bl b) S := by
 unfold dIsi
 rw [ev_vrx h, Res.bind_ok, ht]
 rfl
theorem fEq_int (neg : Bool) (a b : Int) (S : Store) : fEq neg (.int a) (.int b) S = some (.bl (if neg then !decide (a = b) else decide (a = b))) := by
 show (if min (PyData.int a).depth (PyData.int b).depth <= 64 then some (AV.bl (if neg then !PyData.eqv (.int a) (.int b) else PyData.eqv (.int a) (.int b))) else none) = _
 have hd : min (PyData.int a).depth (PyData.int b).depth <= 64 := core_Nat_le_trans_al (Nat.min_le_left _ _) (show (PyData.int a).depth <= 64 by simp [PyData.depth])
 rw [if_pos hd]
 rfl
theorem len_ne {ρ : Dl.Env} {S : Store} {a b : AV} {m n : Nat} (h0 : ρ[0]? = some (some a)) (h1 : ρ[1]? = some (some b)) (ha : fLen [a] S = some (.int m)) (hb : fLen [b] S = some (.int n)) : dTest (dOp (fEq true) (dCB fLen (dCons (dVar 0) dNil)) (dCB fLen (dCons (dVar 1) dNil))) ρ S = .ok (!decide (m = n)) S := by
 refine ev_test ((ev_op (ev_cb (xs := [a]) (ev_cons (ev_vrx h0) ev_nil) ha) (ev_cb (xs := [b]) (ev_cons (ev_vrx h1) ev_nil) hb) (fEq_int true m n S)).trans ?_)
 rw [if_pos rfl]
 congr 3
 exact decide_eq_decide.mpr (by omega)
section
variable {S : Store} {b : Bool}
theorem same_all {n : Nat} {a x : AV} {xs : List AV} (hz : itsZ S [a, x] = some ⟨xs.map fun z => .tup false [cpB b z, z], fun _ => true⟩) (hl : xs.length <= 1000) (ih : ∀ z ∈ xs, Fsame n [cpB b z, z] S = .ok (.bl true) S) :
  dCB fAll (dCons (dFz (dlLc (diZip (dCons (dVar 0) (dCons (dVar 1) dNil))) (dgTup 2 (dgCons (dgName 2) (dgCons (dgName 3) dgNil))) dYes (dCall 2 (Fsame n) (dCons (dVar 2) (dCons (dVar 3) dNil))) [2, 3])) dNil) [some a, some x, none, none] S = .ok (.bl true) S := by
 have hall : xs.all (fun _ => true) = true := by simp
 rw [<- hall]
 refine ev_all (l := xs) (f := fun _ => true) (ev_fz (ev_lc (S1 := S) (its := ⟨xs.map fun z => .tup false [cpB b z, z], fun _ => true⟩) ?_ (by rw [core_List_length_map_al]; unfold lim; omega) ?_))
 ·show Dl.Res.bind (dCons (dVar 0) (dCons (dVar 1) dNil) [some a, some x, none, none] S) _ = _
  rw [ev_cons (x := a) (ev_vrx rfl) (ev_cons (x := x) (ev_vrx rfl) ev_nil), Res.bind_ok, hz]
  rfl
 ·exact lcL_gen (fun z => AV.tup false [cpB b z, z]) (fun _ => .bl true) rfl xs fun z hz => ⟨[some a, some x, some (cpB b z), some z], rfl, ev_call (avs := [cpB b z, z]) (ev_cons (ev_vrx rfl) (ev_cons (ev_vrx rfl) ev_nil)) rfl (ih z hz)⟩
theorem same_tup {n : Nat} {q p : Bool} {xs : List AV} (hl : xs.length <= 1000) (ih : ∀ z ∈ xs, Fsame n [cpB b z, z] S = .ok (.bl true) S) : Fsame (n + 1) [.tup q (xs.map (cpB b)), .tup p xs] S = .ok (.bl true) S := by
 refine ev_run (n := 4) ?_
 show d__law_same (Fsame n) [some (.tup q (xs.map (cpB b))), some (.tup p xs), none, none] S = _
 refine ev_seqr ((ev_ift (ev_test (isi_ev rfl rfl))).trans ?_)
 refine (ev_seq (ρ1 := [some (.tup q (xs.map (cpB b))), some (.tup p xs), none, none]) (S1 := S) ((ev_iff (ev_or (a := false) (b := false) (ev_not (b := true) (ev_test (isi_ev rfl rfl))) fun _ => ?_)).trans rfl)).trans (ev_ret (same_all (xs := xs) ?_ hl ih))
 ·refine (len_ne (m := (xs.map (cpB b)).length) (n := xs.length) rfl rfl rfl rfl).trans ?_
  rw [core_List_length_map_al, core_decide_eq_true_al rfl]
  rfl
 ·show some (Wk.mk (zipd (xs.map (cpB b)) xs) _) = _
  rw [zipd_self]
  rfl
theorem same_ev : ∀ (n : Nat) (x : AV), x.isD = true -> depA x < n -> szA x = true -> Fsame n [cpB b x, x] S = .ok (.bl true) S
 | 0, x, _, h, _ => absurd h (Nat.not_lt_zero _)
 | n + 1, x, hd, hn, hz => by
  refine ev_run (n := 4) ?_
  show d__law_same (Fsame n) [some (cpB b x), some x, none, none] S = _
  have sk1 : ∀ {T : String} {a y : AV} {d d' : DS} {r : RS}, isTy T S y = some false -> d' [some a, some y, none, none] S = r -> dSeq (dIfS (dTest (dIsi T (dVar 1))) d dNext) d' [some a, some y, none, none] S = r := fun {T a y d d' r} h hr => (ev_seq (S1 := S) ((ev_iff (ev_test (isi_ev rfl h))).trans rfl)).trans hr
  have skN : ∀ {a y : AV} {d d' : DS} {r : RS}, dTest (dOp (fIsN false) (dVar 1) (dC .non)) [some a, some y, none, none] S = .ok false S -> d' [some a, some y, none, none] S = r -> dSeq (dIfS (dTest (dOp (fIsN false) (dVar 1) (dC .non))) d dNext) d' [some a, some y, none, none] S = r := fun {a y d d' r} h hr => (ev_seq (S1 := S) ((ev_iff h).trans rfl)).trans hr
  have sc : ∀ y : AV, (match y with | .tup _ _ => False | .lst _ => False | _ => True) -> cpB b y = y := fun y hy => by cases b <;> cases y <;> first | rfl | exact False.elim hy
  cases x with
  | non =>
   rw [sc _ trivial]
   refine sk1 rfl (sk1 rfl ?_)
   exact ev_seqr ((ev_ift (ev_test (b := true) (ev_op (x := .non) (y := .non) (ev_vrx rfl) ev_c rfl))).trans (ev_ret (ev_op (x := .non) (y := .non) (ev_vrx rfl) ev_c rfl)))
  | bl c =>
   rw [sc _ trivial]
   refine sk1 rfl (sk1 rfl (skN (ev_test (ev_op (x := .bl c) (y := .non) (ev_vrx rfl) ev_c rfl)) ?_))
   refine ev_seqr ((ev_ift (ev_test (isi_ev rfl rfl))).trans (ev_ret (ev_andV (a := true) (b := true) (isi_ev rfl rfl) fun _ => ev_op (x := .bl c) (y := .bl c) (ev_vrx rfl) (ev_vrx rfl) ?_)))
   cases c <;> rfl
  | int i =>
   rw [sc _ trivial]
   refine sk1 rfl (sk1 rfl (skN (ev_test (ev_op (x := .int i) (y := .non) (ev_vrx rfl) ev_c rfl)) (sk1 rfl ?_)))
   refine ev_seqr ((ev_ift (ev_test (isi_ev rfl rfl))).trans (ev_ret (ev_andV (a := true) (b := true) (isi_ev rfl rfl) fun _ => ev_andV (a := true) (b := true) ?_ fun _ => ev_op (x := .int i) (y := .int i) (ev_vrx rfl) (ev_vrx rfl) ?_)))
   ·unfold dNotV
    rw [isi_ev (b := false) (z := .int i) rfl rfl, Res.bind_ok]
    rfl
   ·rw [fEq_int, if_neg Bool.false_ne_true, core_decide_eq_true_al rfl]
  | str z =>
   rw [sc _ trivial]
   refine sk1 rfl (sk1 rfl (skN (ev_test (ev_op (x := .str z) (y := .non) (ev_vrx rfl) ev_c rfl)) (sk1 rfl (sk1 rfl ?_))))
   refine ev_ret (ev_andV (a := true) (b := true) (isi_ev rfl rfl) fun _ => ev_op (x := .str z) (y := .str z) (ev_vrx rfl) (ev_vrx rfl) ?_)
   rw [fEq_str, if_neg Bool.false_ne_true, core_decide_eq_true_al rfl]
  | lst xs =>
   have hz' := core_Bool_and_eq_true_iff_al.mp (show (decide (xs.length <= 1000) && szAs xs) = true from hz)
   have hl := of_decide_eq_true hz'.1
   have hdn : depAs xs < n := by have : depAs xs + 1 < n + 1 := hn; omega
   have ih : ∀ z ∈ xs, Fsame n [cpB b z, z] S = .ok (.bl true) S := fun z hzm => same_ev n z (isDs_mem' hd hzm) (Nat.lt_of_le_of_lt (depAs_mem hzm) hdn) (szAs_mem hz'.2 hzm)
   rw [cpB_lst]
   refine sk1 rfl ?_
   refine ev_seqr ((ev_ift (ev_test (isi_ev rfl rfl))).trans ?_)
   refine (ev_seq (ρ1 := [some (.lst (xs.map (cpB b))), some (.lst xs), none, none]) (S1 := S) ((ev_iff (ev_or (a := false) (b := false) (ev_not (b := true) (ev_test (isi_ev rfl rfl))) fun _ => ?_)).trans rfl)).trans (ev_ret (same_all (xs := xs) ?_ hl ih))
   ·refine (len_ne (m := (xs.map (cpB b)).length) (n := xs.length) rfl rfl rfl rfl).trans ?_
    rw [core_List_length_map_al, core_decide_eq_true_al rfl]
    rfl
   ·show some (Wk.mk (zipd (xs.map (cpB b)) xs) _) = _
    rw [zipd_self]
    rfl
  | tup p xs =>
   have hz' := core_Bool_and_eq_true_iff_al.mp (show (decide (xs.length <= 1000) && szAs xs) = true from hz)
   have hl := of_decide_eq_true hz'.1
   have hdn : depAs xs < n := by have : depAs xs + 1 < n + 1 := hn; omega
   have ih : ∀ z ∈ xs, Fsame n [cpB b z, z] S = .ok (.bl true) S := fun z hzm => same_ev n z (isDs_mem' hd hzm) (Nat.lt_of_le_of_lt (depAs_mem hzm) hdn) (szAs_mem hz'.2 hzm)
   obtain ⟨q, hq⟩ := cpB_tup b p xs
   rw [hq]
   refine ev_seqr ((ev_ift (ev_test (isi_ev rfl rfl))).trans ?_)
   refine (ev_seq (ρ1 := [some (.tup q (xs.map (cpB b))), some (.tup p xs), none, none]) (S1 := S) ((ev_iff (ev_or (a := false) (b := false) (ev_not (b := true) (ev_test (isi_ev rfl rfl))) fun _ => ?_)).trans rfl)).trans (ev_ret (same_all (xs := xs) ?_ hl ih))
   ·refine (len_ne (m := (xs.map (cpB b)).length) (n := xs.length) rfl rfl rfl rfl).trans ?_
    rw [core_List_length_map_al, core_decide_eq_true_al rfl]
    rfl
   ·show some (Wk.mk (zipd (xs.map (cpB b)) xs) _) = _
    rw [zipd_self]
    rfl
  | _ => exact absurd hd (by simp [AV.isD])
end
theorem ev_seqr' {ρ : Dl.Env} {S S1 : Store} {d d' : DS} {x : AV} (h : d ρ S = .go (.rt x) S1) : dSeq d d' ρ S = .go (.rt x) S1 := by
 unfold dSeq
 rw [h]
structure OkV (n : Nat) (x : AV) : Prop where
 d : x.isD = true
 dep : depA x <= n
 z : szA x = true
theorem okVs {n : Nat} : ∀ {xs : List AV}, (∀ x ∈ xs, OkV n x) -> isDs xs = true /\ depAs xs <= n /\ szAs xs = true
 | [], _ => ⟨rfl, core_Nat_zero_le_al _, rfl⟩
 | x :: xs, h => by
  have hx := h x (core_List_mem_cons_self_al ..)
  obtain ⟨a, b, c⟩ := okVs (n := n) (xs := xs) fun y hy => h y (core_List_mem_cons_of_mem_al _ hy)
  exact ⟨by show (x.isD && isDs xs) = true; rw [hx.d, a]; rfl, Nat.max_le.mpr ⟨hx.dep, b⟩, by show (szA x && szAs xs) = true; rw [hx.z, c]; rfl⟩
theorem okV_tup {n : Nat} {p : Bool} {xs : List AV} (hl : xs.length <= 1000) (h : ∀ x ∈ xs, OkV n x) : OkV (n + 1) (.tup p xs) := by
 obtain ⟨a, b, c⟩ := okVs h
 exact ⟨a, by show depAs xs + 1 <= n + 1; omega, by show (decide (xs.length <= 1000) && szAs xs) = true; rw [core_decide_eq_true_al hl, c]; rfl⟩
theorem okV_lst {n : Nat} {xs : List AV} (hl : xs.length <= 1000) (h : ∀ x ∈ xs, OkV n x) : OkV (n + 1) (.lst xs) := by
 obtain ⟨a, b, c⟩ := okVs h
 exact ⟨a, by show depAs xs + 1 <= n + 1; omega, by show (decide (xs.length <= 1000) && szAs xs) = true; rw [core_decide_eq_true_al hl, c]; rfl⟩
theorem okV_int (n : Nat) (i : Int) : OkV n (.int i) := ⟨rfl, core_Nat_zero_le_al _, rfl⟩
mutual
theorem eqv_py : ∀ {x : AV}, x.isD = true -> PyData.eqv x.py x.py = true
 | .non, _ => rfl
 | .bl b, _ => by cases b <;> rfl
 | .int i, _ => by
  show PyData.eqv (.int i) (.int i) = true
  rw [PyData.eqv.eq_def]
  exact beq_self_eq_true i
 | .str z, _ => by
  show PyData.eqv (.str z) (.str z) = true
  rw [PyData.eqv.eq_def]
  exact beq_self_eq_true z
 | .tup _ xs, h => by
  show PyData.eqv (.tuple (pys xs)) (.tuple (pys xs)) = true
  rw [PyData.eqv.eq_def]
  exact eqv_pys h
 | .lst xs, h => by
  show PyData.eqv (.list (pys xs)) (.list (pys xs)) = true
  rw [PyData.eqv.eq_def]
  exact eqv_pys h
theorem eqv_pys : ∀ {xs : List AV}, isDs xs = true -> PyData.eqvAll (pys xs) (pys xs) = true
 | [], _ => rfl
 | x :: xs, h => by
  have h' : x.isD = true /\ isDs xs = true := core_Bool_and_eq_true_iff_al.mp h
  show PyData.eqvAll (x.py :: pys xs) (x.py :: pys xs) = true
  rw [PyData.eqvAll.eq_def]
  show (PyData.eqv x.py x.py && PyData.eqvAll (pys xs) (pys xs)) = true
  rw [eqv_py h'.1, eqv_pys h'.2]
  rfl
end
mutual
theorem dep_py : ∀ {x : AV}, x.isD = true -> x.py.depth <= depA x
 | .non, _ => core_Nat_zero_le_al _
 | .bl b, _ => core_Nat_zero_le_al _
 | .int i, _ => core_Nat_zero_le_al _
 | .str z, _ => core_Nat_zero_le_al _
 | .tup _ xs, h => by
  show (PyData.tuple (pys xs)).depth <= depAs xs + 1
  rw [PyData.depth.eq_def]
  exact Nat.succ_le_succ (dep_pys h)
 | .lst xs, h => by
  show (PyData.list (pys xs)).depth <= depAs xs + 1
  rw [PyData.depth.eq_def]
  exact Nat.succ_le_succ (dep_pys h)
theorem dep_pys : ∀ {xs : List AV}, isDs xs = true -> PyData.depthAll (pys xs) <= depAs xs
 | [], _ => core_Nat_zero_le_al _
 | x :: xs, h => by
  have h' : x.isD = true /\ isDs xs = true := core_Bool_and_eq_true_iff_al.mp h
  show PyData.depthAll (x.py :: pys xs) <= max (depA x) (depAs xs)
  rw [PyData.depthAll.eq_def]
  have a := dep_py h'.1
  have b := dep_pys h'.2
  show max x.py.depth (PyData.depthAll (pys xs)) <= _
  omega
end
theorem fEq_self {x : AV} {S : Store} (h : x.isD = true) (hd : depA x <= 60) : fEq false x x S = some (.bl true) := by
 have hdat : datOf S x = some x.py := by
  cases x <;> first
   | rfl
   | exact if_pos h
   | exact absurd h (by simp [AV.isD])
 show (datOf S x).bind (fun d => (datOf S x).bind fun e => if min d.depth e.depth <= 64 then some (AV.bl (if false then !PyData.eqv d e else PyData.eqv d e)) else none) = _
 rw [hdat]
 show (if min x.py.depth x.py.depth <= 64 then some (AV.bl (if false then !PyData.eqv x.py x.py else PyData.eqv x.py x.py)) else none) = _
 have := dep_py h
 rw [if_pos (by omega), if_neg Bool.false_ne_true, eqv_py h]
theorem same_two {n m : Nat} {q : Bool} {t : Str} {x : AV} {b : Bool} {S : Store} (ho : OkV m x) (hn : m + 2 <= n) : Fsame n [.tup q [.str t, cpB b x], .tup false [.str t, x]] S = .ok (.bl true) S := by
 obtain ⟨k, rfl⟩ : ∃ k, n = k + 1 := ⟨n - 1, by omega⟩
 have := same_tup (n := k) (q := q) (p := false) (S := S) (b := b) (xs := [.str t, x]) (by show 2 <= 1000; decide) fun z hz => by
  simp only [core_List_mem_cons_al, core_List_not_mem_nil_al, or_false] at hz
  rcases hz with h | h
  ·rw [h]
   exact same_ev k (.str t) rfl (by show 0 < k; omega) rfl
  ·rw [h]
   exact same_ev k x ho.d (by have := ho.dep; omega) ho.z
 rw [show [AV.str t, x].map (cpB b) = [.str t, cpB b x] from (by cases b <;> rfl)] at this
 exact this
end Dn
namespace Dn
open PySem PySem.Spec PyProof.Rows L2 Evl Cm Dl
open Classical in
noncomputable def Ed.accs (E : Ed) : List Acc := if h : ∃ a : List Acc, E.acc = .tup false (a.map Acc.av) then choose h else []
theorem cutA_drop {xs : List AV} {i : Nat} : cutA xs (some (i : Int)) none = xs.drop i := by
 unfold cutA
 rw [HT.sIx_nat, HT.sIx_none]
 by_cases h : i <= xs.length
 ·rw [Nat.min_eq_left h, List.take_of_length_le (by rw [List.length_drop]; exact core_Nat_le_refl_al _)]
 ·rw [Nat.min_eq_right (by omega), Nat.sub_self, List.take_zero, List.drop_of_length_le (by omega)]
theorem ev_addT {ρ : Dl.Env} {S : Store} {da db : DE} {p q : Bool} {xs ys : List AV} (ha : da ρ S = .ok (.tup p xs) S) (hb : db ρ S = .ok (.tup q ys) S) (hl : xs.length + ys.length <= lim) : dOp fAdd da db ρ S = .ok (.tup false (xs ++ ys)) S :=
 ev_op ha hb (by show (if xs.length + ys.length <= lim then some (AV.tup false (xs ++ ys)) else none) = _; rw [if_pos hl])
structure St where
 src : List Int
 insts : List PI
 cur : List (Option Int)
 lis : List (Int × Str × Str × Str)
end Dn
namespace Dn
open PySem PySem.Spec PyProof.Rows L2 Evl Cm Dl
def St.at (s : St) (v : Option Int) : PI := (v.bind fun i => L2.atI s.insts i).getD PI.none
def St.CurOk (s : St) : Prop := ∀ v ∈ s.cur, ∀ i, v = some i -> ∃ x, L2.atI s.insts i = some x
def PI.WOk (x : PI) : Prop := x.word = .non ∨ ∃ w : Str, x.word = .str w
structure GG (words events : List Str) (B : Nat) (g : Gr) : Prop where
 P : GoodP words events g
 G : GoodG g B
def St.EdOk (s : St) (g : Gr) : Prop := ∀ x ∈ s.insts, x.mod ∈ g.names /\ ∃ E, L2.atI (g.eds x.mod) x.ed = some E
structure St.Ok1 (s : St) (g : Gr) : Prop where
 cur : s.CurOk
 len : s.cur.length = g.names.length
 own : ∀ (k : Nat) (i : Int), s.cur[k]? = some (some i) -> ∃ x, L2.atI s.insts i = some x /\ g.names[k]? = some x.mod
 ed : s.EdOk g
 w : ∀ x ∈ s.insts, x.WOk
section
variable {g : Gr} {eds : List (Str × Ed)} {words events : List Str} {B : Nat} {s : St}
theorem raise_ev {C f : Str} {ok : AV -> Bool} {gg : AV -> AV} {de : DE} {ρ : Dl.Env} {S S1 : Store} {x : AV} (he : de ρ S = .ok x S1) (hx : ok x = true) : dRaise C f ok gg (dCons de dNil) ρ S = .go (.xc ρ (.exc C [(f, gg x)])) S1 := by
 unfold dRaise
 rw [ev_cons (dr := dNil) he ev_nil]
 show (if ok x = true then RS.go (.xc ρ (.exc C [(f, gg x)])) S1 else .bad) = _
 rw [if_pos hx]
theorem ev_runX {d : DS} {n : Nat} {avs : List AV} {S S1 : Store} {ρ1 : Dl.Env} {e : AV} (h : d (Dl.envOf n avs) S = .go (.xc ρ1 e) S1) : runD d n avs S = .exc e S1 := by
 unfold runD
 rw [h]
 rfl
theorem ev_seqx {ρ ρ1 : Dl.Env} {S S1 : Store} {d d' : DS} {e : AV} (h : d ρ S = .go (.xc ρ1 e) S1) : dSeq d d' ρ S = .go (.xc ρ1 e) S1 := by
 unfold dSeq
 rw [h]
end
inductive Ot where
 | ok (m : PM) | no (w : Str) | bad
theorem forX {gd : Store -> Bool} {dg : DG} {d : DS} {x e : AV} {xs : List AV} {ρ ρ1 ρ2 : Dl.Env} {S S2 : Store} (h : gd S = true) (hg : dg x ρ = some ρ1) (hb : d ρ1 S = .go (.xc ρ2 e) S2) : forL gd dg d (x :: xs) ρ S = .go (.xc ρ2 e) S2 := by
 unfold forL
 rw [if_pos h, hg]
 simp only [hb]
theorem asg_exc {de : DE} {dg : DG} {ρ : Dl.Env} {S S1 : Store} {e : AV} (h : de ρ S = .exc e S1) : dAsg de dg ρ S = .go (.xc ρ e) S1 := by
 unfold dAsg
 rw [h]
 rfl
def accA (imp name : Str) : AV := .tup false [.str "accept", .str imp, .str name]
def Row.slots : Row -> List Str
 | .hold s _ => [s]
 | _ => []
def Acc.rows : Acc -> List Row
 | .self => []
 | .imp _ rows => rows
noncomputable def Ed.slots (E : Ed) : List Str := E.body.flatMap Row.slots ++ E.accs.flatMap fun a => a.rows.flatMap Row.slots
noncomputable def Gr.slots (g : Gr) : List Str := g.mods.flatMap fun p => p.2.flatMap Ed.slots
structure UOk (g : Gr) (U : List Str) : Prop where
 len : U.length <= 240
 nm : ∀ s ∈ U, IsName s
 sub : ∀ s ∈ g.slots, s ∈ U
section
variable {words events : List Str} {B : Nat} {g : Gr} {U : List Str}
theorem PIok.hl {n : Nat} {x : PI} (hU : UOk g U) (h : PIok words g U n x) : x.holds.length <= 240 := by
 have := nd_sub (x.holds.map (·.1)) U h.hn fun s hs => by
  obtain ⟨p, hp, rfl⟩ := core_List_mem_map_al.mp hs
  exact h.hu p hp
 rw [core_List_length_map_al] at this
 exact core_Nat_le_trans_al this hU.len
end
section
variable {words events : List Str} {B : Nat} {g : Gr} {U : List Str}
structure Mon (m m' : PM) : Prop where
 mono : ∀ w j, lookS m.cur w = some (some j) -> lookS m'.cur w = some (some j)
 no : nones m'.cur <= nones m.cur
theorem Mon.trans {m m1 m2 : PM} (a : Mon m m1) (b : Mon m1 m2) : Mon m m2 := ⟨fun w j h => b.mono w j (a.mono w j h), core_Nat_le_trans_al b.no a.no⟩
structure RunOk (words events : List Str) (g : Gr) (U : List Str) (T : Nat) (m m' : PM) : Prop where
 p : P2 words events g U T m'
 mon : Mon m m'
 len : m.insts.length <= m'.insts.length
theorem RunOk.trans {T : Nat} {m m1 m2 : PM} (a : RunOk words events g U T m m1) (b : RunOk words events g U T m1 m2) : RunOk words events g U T m m2 := ⟨b.p, a.mon.trans b.mon, core_Nat_le_trans_al a.len b.len⟩
end
section
variable {words events : List Str} {B : Nat} {g : Gr} {U : List Str}
structure GSt (words events : List Str) (g : Gr) (U : List Str) (s : St) : Prop where
 src : SrcOk g s.src
 il : (s.insts.length : Int) <= g.most
 cl : s.cur.length = g.names.length
 own : ∀ (k : Nat) (i : Int), s.cur[k]? = some (some i) -> 0 <= i /\ ∃ x, s.insts[i.toNat]? = some x /\ g.names[k]? = some x.mod
 ins : ∀ x ∈ s.insts, PIok words g U s.insts.length x
 ll : (s.lis.length : Int) <= g.most
 lis : ∀ l ∈ s.lis, LisOk events g l
 lisI : Inb s.insts.length (s.lis.map fun l => some l.1)
 all : ∀ A : List Int, (∀ i, some i ∈ s.cur -> i ∈ A) -> (∀ l ∈ s.lis, l.1 ∈ A) -> (∀ i ∈ A, ∀ x, s.insts[i.toNat]? = some x -> ∀ j, some j ∈ x.links -> j ∈ A) -> ∀ i : Nat, i < s.insts.length -> (i : Int) ∈ A
end
section
variable {words events : List Str} {B : Nat} {g : Gr} {U : List Str} {s : St}
inductive StepR where
 | ok (s : St) (calls tr : AV) | no (w : Str) | bad
structure SOk (words events : List Str) (g : Gr) (U : List Str) (s : St) (c t : AV) : Prop where
 st : GSt words events g U s
 c : c.isD = true
 t : t.isD = true
end
section
variable {words events : List Str} {B : Nat} {g : Gr} {U : List Str} {s : St}
theorem g4 (G : GG words events B g) : g.mods.length <= 1000 := by have := G.P.m.len.2; omega
end
inductive Deed where
 | edit (n : Str) (k : Int) | fire (e : Str) | set (n w : Str) | reload
theorem pick_strs {S : Store} {p : Nat} {l : List Str} (h : Pool S p) (hl : 0 < l.length) (hb : (l.length : Int) < 1073741824) : ∃ y ∈ l, ∃ S', F__law_pick [.ref p, .lst (l.map .str)] S = .ok (.str y) S' /\ Go p S S' := by
 obtain ⟨y, hy, S', e, go⟩ := pick_lst (xs := l.map .str) h (by rw [core_List_length_map_al]; exact hl) (by rw [core_List_length_map_al]; exact hb)
 obtain ⟨z, hz, rfl⟩ := core_List_mem_map_al.mp hy
 exact ⟨z, hz, S', e, go⟩
theorem fAdd_str {a b : Str} {S : Store} (h : a.length + b.length <= 1000) : fAdd (.str a) (.str b) S = some (.str (a ++ b)) := if_pos (core_Nat_le_trans_al h (by decide +kernel))
theorem ev_tryAsN {C : Str} {ds : DS} {su : List (Str × AV) -> DS} {ρ ρ1 : Dl.Env} {S S1 : Store} (h : ds ρ S = .go (.nx ρ1) S1) : dTryAs C ds su ρ S = .go (.nx ρ1) S1 := by
 unfold dTryAs
 rw [h]
theorem ev_tryAsX {C : Str} {ds : DS} {su : List (Str × AV) -> DS} {ρ ρ1 : Dl.Env} {S S1 : Store} {fs : List (Str × AV)} {r : RS} (h : ds ρ S = .go (.xc ρ1 (.exc C fs)) S1) (hs : su fs ρ1 S1 = r) : dTryAs C ds su ρ S = r := by
 unfold dTryAs
 rw [h]
 simp only [if_true]
 exact hs
theorem same_refl {n m : Nat} {x : AV} {S : Store} (ho : OkV m x) (hn : m < n) : Fsame n [x, x] S = .ok (.bl true) S := same_ev (b := false) n x ho.d (by have := ho.dep; omega) ho.z
theorem same_told {n m : Nat} {q : Bool} {t : Str} {x : AV} {S : Store} (ho : OkV m x) (hn : m + 2 <= n) : Fsame n [.tup q [.str t, x], .tup false [.str t, x]] S = .ok (.bl true) S := same_two (b := false) ho hn
theorem okV_str (n : Nat) (z : Str) : OkV n (.str z) := ⟨rfl, core_Nat_zero_le_al _, rfl⟩
section
variable {words events : List Str} {B : Nat} {g : Gr} {U : List Str} {s : St} {S : Store}
theorem okV_mapT {α : Type} {n : Nat} {p : Bool} {f : α -> AV} {l : List α} (hl : l.length <= 1000) (h : ∀ a ∈ l, OkV n (f a)) : OkV (n + 1) (.tup p (l.map f)) := okV_tup (by rw [core_List_length_map_al]; exact hl) fun x hx => by
 obtain ⟨a, ha, rfl⟩ := core_List_mem_map_al.mp hx
 exact h a ha
end
def wd (x : PI) : Str × Int × AV := (x.mod, x.ed, x.word)
def PM.w (m : PM) : List (Str × Int × AV) := m.insts.map wd
def hasCell (E : Ed) : Bool := E.body.any Row.isCell
def FitT (words : List Str) (g : Gr) (t : Str × Int × AV) : Prop := ∃ E, (0 <= t.2.1 /\ L2.atI (g.eds t.1) t.2.1 = some E) /\ ((hasCell E = true /\ ∃ w ∈ words, t.2.2 = .str w) ∨ (hasCell E = false /\ t.2.2 = .non))
def runA (n : Str) : AV := .tup false [.str "run", .str n]
structure RowsE (m m' : PM) : Prop where
 cur : m'.cur = m.cur
 car : m'.car = m.car
 tr : m'.tr = m.tr
 n : m'.insts.length = m.insts.length
theorem RowsE.trans {m m1 m2 : PM} (a : RowsE m m1) (b : RowsE m1 m2) : RowsE m m2 := ⟨b.cur.trans a.cur, b.car.trans a.car, b.tr.trans a.tr, b.n.trans a.n⟩
structure RunE (words : List Str) (g : Gr) (src : List Int) (m m' : PM) (L : List (Str × Int × AV)) : Prop where
 w : m'.w = m.w ++ L
 car : m'.car = m.car
 tr : m'.tr = m.tr ++ L.map fun t => runA t.1
 ok : ∀ t ∈ L, t.1 ∈ g.names /\ src[g.names.idxOf t.1]? = some t.2.1 /\ FitT words g t
 keys : keysS m'.cur = keysS m.cur
 keep : ∀ n j, lookS m.cur n = some (some j) -> lookS m'.cur n = some (some j)
 new : ∀ n j, lookS m'.cur n = some (some j) -> lookS m.cur n = some (some j) ∨ (lookS m.cur n = some none /\ ∃ (i : Nat) (t : Str × Int × AV), L[i]? = some t /\ t.1 = n /\ j = ((m.insts.length + i : Nat) : Int))
 all : ∀ t ∈ L, ∃ j, lookS m'.cur t.1 = some (some j)
 was : ∀ t ∈ L, lookS m.cur t.1 = some none
 nd : (L.map (·.1)).Nodup
theorem RunE.n {words : List Str} {g : Gr} {src : List Int} {m m' : PM} {L : List (Str × Int × AV)} (h : RunE words g src m m' L) : m'.insts.length = m.insts.length + L.length := by
 have := congrArg List.length h.w
 rw [core_List_length_append_al] at this
 unfold PM.w at this
 rw [core_List_length_map_al, core_List_length_map_al] at this
 exact this
theorem RunE.trans {words : List Str} {g : Gr} {src : List Int} {m m1 m2 : PM} {L1 L2 : List (Str × Int × AV)} (a : RunE words g src m m1 L1) (b : RunE words g src m1 m2 L2) : RunE words g src m m2 (L1 ++ L2) := by
 refine ⟨by rw [b.w, a.w, core_List_append_assoc_al], b.car.trans a.car, by rw [b.tr, a.tr, core_List_map_append_al, core_List_append_assoc_al], fun t ht => (core_List_mem_append_al.mp ht).elim (a.ok t) (b.ok t), b.keys.trans a.keys, fun n j h => b.keep n j (a.keep n j h), fun n j h => ?_, fun t ht => ?_, fun t ht => ?_, ?_⟩
 ·rcases b.new n j h with q | ⟨q0, i, t, q1, q2, q3⟩
  ·rcases a.new n j q with z | ⟨z0, i, t, z1, z2, z3⟩
   ·exact .inl z
   ·exact .inr ⟨z0, i, t, by rw [core_List_getElem__append_left_al (core_List_getElem__eq_some_iff_al.mp z1).1]; exact z1, z2, z3⟩
  ·have hn : lookS m.cur n = some none := by
    cases e : lookS m.cur n with
    | none =>
     exfalso
     have hk : n ∈ keysS m1.cur := core_List_mem_map_of_mem_al (f := (·.1)) (lookS_mem q0)
     rw [a.keys] at hk
     obtain ⟨v, hv⟩ := lookS_key hk
     rw [hv] at e
     cases e
    | some v =>
     cases v with
     | none => rfl
     | some k => rw [a.keep n k e] at q0; cases q0
   refine .inr ⟨hn, L1.length + i, t, ?_, q2, ?_⟩
   ·rw [core_List_getElem__append_right_al (Nat.le_add_right _ _), Nat.add_sub_cancel_left]
    exact q1
   ·rw [q3, a.n, Nat.add_assoc]
 ·rcases core_List_mem_append_al.mp ht with z | z
  ·obtain ⟨j, hj⟩ := a.all t z
   exact ⟨j, b.keep _ j hj⟩
  ·exact b.all t z
 ·rcases core_List_mem_append_al.mp ht with z | z
  ·exact a.was t z
  ·have q0 := b.was t z
   cases e : lookS m.cur t.1 with
   | none =>
    exfalso
    have hk : t.1 ∈ keysS m1.cur := core_List_mem_map_of_mem_al (f := (·.1)) (lookS_mem q0)
    rw [a.keys] at hk
    obtain ⟨v, hv⟩ := lookS_key hk
    rw [hv] at e
    cases e
   | some v =>
    cases v with
    | none => rfl
    | some k => rw [a.keep _ k e] at q0; cases q0
 ·rw [core_List_map_append_al, core_List_nodup_append_al]
  refine ⟨a.nd, b.nd, fun x hx y hy e => ?_⟩
  obtain ⟨t, ht, rfl⟩ := core_List_mem_map_al.mp hx
  obtain ⟨u, hu, rfl⟩ := core_List_mem_map_al.mp hy
  obtain ⟨j, hj⟩ := a.all t ht
  rw [e, b.was u hu] at hj
  cases hj
section
variable {words events : List Str} {B : Nat} {g : Gr} {U : List Str} {s : St}
structure AddE (words : List Str) (g : Gr) (src : List Int) (m m' : PM) (L : List (Str × Int × AV)) (T : List AV) : Prop where
 w : m'.w = m.w ++ L
 car : m'.car = m.car
 tr : m'.tr = m.tr ++ T
 ok : ∀ t ∈ L, t.1 ∈ g.names /\ src[g.names.idxOf t.1]? = some t.2.1 /\ FitT words g t
 keys : keysS m'.cur = keysS m.cur
 keep : ∀ n j, lookS m.cur n = some (some j) -> lookS m'.cur n = some (some j)
 new : ∀ n j, lookS m'.cur n = some (some j) -> lookS m.cur n = some (some j) ∨ (lookS m.cur n = some none /\ ∃ (i : Nat) (t : Str × Int × AV), L[i]? = some t /\ t.1 = n /\ j = ((m.insts.length + i : Nat) : Int))
theorem AddE.n {src : List Int} {m m' : PM} {L : List (Str × Int × AV)} {T : List AV} (h : AddE words g src m m' L T) : m'.insts.length = m.insts.length + L.length := by
 have := congrArg List.length h.w
 rw [core_List_length_append_al] at this
 unfold PM.w at this
 rw [core_List_length_map_al, core_List_length_map_al] at this
 exact this
theorem AddE.trans {src : List Int} {m m1 m2 : PM} {L1 L2 : List (Str × Int × AV)} {T1 T2 : List AV} (a : AddE words g src m m1 L1 T1) (b : AddE words g src m1 m2 L2 T2) : AddE words g src m m2 (L1 ++ L2) (T1 ++ T2) := by
 refine ⟨by rw [b.w, a.w, core_List_append_assoc_al], b.car.trans a.car, by rw [b.tr, a.tr, core_List_append_assoc_al], fun t ht => (core_List_mem_append_al.mp ht).elim (a.ok t) (b.ok t), b.keys.trans a.keys, fun n j h => b.keep n j (a.keep n j h), fun n j h => ?_⟩
 rcases b.new n j h with q | ⟨q0, i, t, q1, q2, q3⟩
 ·rcases a.new n j q with z | ⟨z0, i, t, z1, z2, z3⟩
  ·exact .inl z
  ·exact .inr ⟨z0, i, t, by rw [core_List_getElem__append_left_al (core_List_getElem__eq_some_iff_al.mp z1).1]; exact z1, z2, z3⟩
 ·have hn : lookS m.cur n = some none := by
   cases e : lookS m.cur n with
   | none =>
    exfalso
    have hk : n ∈ keysS m1.cur := core_List_mem_map_of_mem_al (f := (·.1)) (lookS_mem q0)
    rw [a.keys] at hk
    obtain ⟨v, hv⟩ := lookS_key hk
    rw [hv] at e
    cases e
   | some v =>
    cases v with
    | none => rfl
    | some k => rw [a.keep n k e] at q0; cases q0
  refine .inr ⟨hn, L1.length + i, t, ?_, q2, ?_⟩
  ·rw [core_List_getElem__append_right_al (Nat.le_add_right _ _), Nat.add_sub_cancel_left]
   exact q1
  ·rw [q3, a.n, Nat.add_assoc]
def St.Fit (words : List Str) (g : Gr) (s : St) : Prop := ∀ x ∈ s.insts, FitT words g (wd x)
def St.Top (g : Gr) (s : St) : Prop := ∃ i, s.cur[g.names.idxOf g.top]? = some (some i)
structure More (words : List Str) (g : Gr) (s : St) : Prop where
 fit : s.Fit words g
 top : s.Top g
end
end Dn
namespace Dl
open PySem PySem.Spec PyProof.Rows L2 Evl Cm
section
variable {K : PySem.W.Frag}
def fStrD (xs : List AV) (_ : Store) : Option AV := match xs with
 | [.int (.ofNat n)] => if n < 10 then some (.str (dig n)) else none
 | _ => none
theorem dig_ok : ∀ n : Nat, n < 10 -> PyData.strOk (dig n) = true /\ (dig n).length <= 1048576 := by decide +kernel
theorem sc_strD : SCn K (fun xs H Q => ∃ i, xs = [.int i] /\ i.natAbs.log2 < 1920 /\ Q (.str (toString i)) H) fStrD := by
 intro xs z S c us H Q hK k rs e q
 cases rs with
 | nil => cases e
 | @cons x u xs us r rs =>
  cases x with
  | int i =>
   cases rs with
   | cons _ _ => cases i <;> cases e
   | nil =>
    cases i with
    | negSucc n => cases e
    | ofNat n =>
     have e : (if n < 10 then some (AV.str (dig n)) else none) = some z := e
     split at e
     next h =>
      cases e
      have o := dig_ok n h
      refine ⟨.ofNat n, by rw [r.i], ?_, q c H _ (Nxt.refl c H) k (.str ⟨o.1, o.2⟩)⟩
      show n.log2 < 1920
      exact Nat.lt_of_le_of_lt (Nat.log2_le_self n) (by omega)
     next => cases e
  | _ => cases e
end
section
variable {W : WX} {K : PySem.W.Frag} {c c' : Co} {S : Store} {H H' : Hp} {te ta to : TE} {de da : DE} {tA : TA} {dA : DA}
theorem sokB_ok {z : Str} (h : sokB z = true) : SOk z := .of h
def rJoin (K : PySem.W.Frag) : V -> List V -> Hp -> VK -> Prop := fun x xs H Q => ∃ a p, ∃ ys : List Str, x = .str a /\ xs = [.ref p] /\ (SqL K H p (ys.map V.str) ∨ SqT K H p (ys.map V.str)) /\
  (ys.map (·.length)).sum + ys.length * a.length <= 16777216 /\ Q (.str (Txt.join a ys)) H
def fJoin : MF := fun x as S => match x, as with
 | .str a, [y] => (match seqA S y with
  | some xs => (match txtsA xs with
   | some ys => if decide ((ys.map (·.length)).sum + ys.length * a.length <= 16777216) && sokB (Txt.join a ys) then some (.str (Txt.join a ys), S) else none
   | none => none)
  | none => none)
 | _, _ => none
theorem sm_join : SM K (rJoin K) fJoin := by
 intro x as y S S' c u us H Q hK k r rs h g
 unfold fJoin at h
 split at h
 next a q =>
  split at h
  next xs q1 =>
   split at h
   next ys q2 =>
    split at h
    next hc =>
     cases h
     obtain ⟨h1, h2⟩ := core_Bool_and_eq_true_iff_al.mp hc
     cases rs with
     | cons rz t =>
      cases t
      cases r
      obtain ⟨p, vs, rfl, hs, rv⟩ := seqA_at hK k rz q1
      have ev := txtsA_at rv q2
      subst ev
      exact ⟨a, p, ys, rfl, rfl, hs, of_decide_eq_true h1, g c _ _ (Nxt.refl c H) k (.str (sokB_ok h2))⟩
    next => cases h
   next => cases h
  next => cases h
 next => cases h
def rSplit : V -> List V -> Hp -> VK -> Prop := fun x xs H Q => ∃ a b, x = .str a /\ xs = [.str b] /\ (b.length == 0) = false /\ a.length + 2 <= sizeLine /\ rNewStrs (Txt.split a b) H Q
def dlSplit (dx : DE) (dA : DA) : DL := fun ρ S => (dx ρ S).bind fun x S1 => match x with
 | .str a => (dA ρ S1).bind fun as S2 => (match as with
  | [.str b] => if !(b.length == 0) && (decide (a.length + 2 <= 16777216) && (Txt.split a b).all sokB) then .ok ((Txt.split a b).map .str) S2 else .bad
  | _ => .bad)
 | _ => .bad
theorem strs_rels : ∀ {ys : List Str}, ys.all sokB = true -> Rels c H (ys.map AV.str) (ys.map V.str)
 | [], _ => .nil
 | y :: ys, h => by
  rw [List.all_cons] at h
  obtain ⟨h1, h2⟩ := core_Bool_and_eq_true_iff_al.mp h
  exact .cons (.str (sokB_ok h1)) (strs_rels h2)
theorem sl_split (ha : SE W K to da) (hA : SA W K tA dA) : SEL W K (tBM K "str" rSplit to tA) (dlSplit da dA) := by
 intro ρ S c σ H Q hK k e h
 refine ha ρ S c σ H _ hK k e (Res.post_mono (Res.post_bind.mp h) (fun x S1 h1 => ?_) fun _ _ z => z)
 intro c1 H1 u n1 k1 r1
 have hK1 := n1.K.trans hK
 cases x with
 | str a =>
  refine ⟨tyA_at hK1 k1 r1 rfl, hA ρ S1 c1 σ H1 _ hK1 k1 (e.nxt n1) (Res.post_mono (Res.post_bind.mp h1) (fun as S2 g => ?_) fun _ _ z => z.nxt n1)⟩
  intro c2 H2 us n2 k2 rs
  cases r1
  split at g
  next b =>
   split at g
   next hc =>
    obtain ⟨h1, h2⟩ := core_Bool_and_eq_true_iff_al.mp hc
    obtain ⟨h3, h4⟩ := core_Bool_and_eq_true_iff_al.mp h2
    cases rs with
    | cons rz t =>
     cases t
     cases rz
     refine ⟨a, b, rfl, rfl, ?_, ?_, fun p hp => g c2 H2 _ p (n1.trans n2) k2 hp (strs_rels h4)⟩
     ·cases q : (b.length == 0) with
      | false => rfl
      | true => rw [q] at h1; cases h1
     ·exact of_decide_eq_true h3
   next => exact False.elim g
  next => exact False.elim g
 | _ => exact False.elim h1
def rFind : V -> List V -> Hp -> VK -> Prop := fun x xs H Q => ∃ a b, x = .str a /\ xs = [.str b] /\ Q (.int (Txt.find a b)) H
def fFind : MF := fun x as S => match x, as with
 | .str a, [.str b] => some (.int (Txt.find a b), S)
 | _, _ => none
theorem sm_find : SM K rFind fFind := by
 intro x as y S S' c u us H Q hK k r rs h g
 unfold fFind at h
 split at h
 next a b =>
  cases h
  cases r
  cases rs with
  | cons rz t =>
   cases t
   cases rz
   exact ⟨a, b, rfl, rfl, g c _ _ (Nxt.refl c H) k (.int _)⟩
 next => cases h
def rUpper : V -> List V -> Hp -> VK -> Prop := fun x xs H Q => ∃ a, x = .str a /\ xs = [] /\ a.length <= 5592405 /\ Q (.str (Txt.upper a)) H
def fUpper : MF := fun x as S => match x, as with
 | .str a, [] => if sokB (Txt.upper a) then some (.str (Txt.upper a), S) else none
 | _, _ => none
theorem sm_upper : SM K rUpper fUpper := by
 intro x as y S S' c u us H Q hK k r rs h g
 unfold fUpper at h
 split at h
 next a =>
  split at h
  next hc =>
   cases h
   cases r with
   | str sa =>
    cases rs
    exact ⟨a, rfl, rfl, core_Nat_le_trans_al sa.len (by decide), g c _ _ (Nxt.refl c H) k (.str (sokB_ok hc))⟩
  next => cases h
 next => cases h
def rStrA : List V -> Hp -> VK -> Prop := fun xs H Q => (∃ a, xs = [.str a] /\ Q (.str a) H) ∨ ∃ i, xs = [.int i] /\ i.natAbs.log2 < 1920 /\ Q (.str (toString i)) H
theorem call_strA {X : Cx} : CallR X (.type "str") rStrA := CallR.or SkE.call_str_str call_str_int
def fStrA (xs : List AV) (S : Store) : Option AV := match xs with
 | [.str z] => some (.str z)
 | xs => fStrD xs S
theorem sc_strA : SCn K rStrA fStrA := by
 intro xs z S c us H Q hK k rs e q
 unfold fStrA at e
 split at e
 next w =>
  cases e
  cases rs with
  | cons r t =>
   cases t
   cases r with
   | str h => exact .inl ⟨w, rfl, q c H _ (Nxt.refl c H) k (.str h)⟩
 next => exact .inr (sc_strD xs z S c us H Q hK k rs e q)
def rIntS : List V -> Hp -> VK -> Prop := fun xs H Q => ∃ a n, xs = [.str a] /\ PySem.intText? a = some n /\ a.length <= 640 /\ Q (.int n) H
def fIntS (xs : List AV) (_ : Store) : Option AV := match xs with
 | [.str a] => if decide (a.length <= 640) then (PySem.intText? a).map .int else none
 | _ => none
theorem sc_intS : SCn K rIntS fIntS := by
 intro xs z S c us H Q hK k rs e q
 unfold fIntS at e
 split at e
 next a =>
  split at e
  next hl =>
   obtain ⟨n, h1, h2⟩ := core_Option_map_eq_some_iff_al.mp e
   subst h2
   cases rs with
   | cons r t =>
    cases t
    cases r
    exact ⟨a, n, rfl, h1, of_decide_eq_true hl, q c H _ (Nxt.refl c H) k (.int _)⟩
  next => cases e
 next => cases e
end
section
variable {prog : Program} {w : World} {A : Around} {E : Value -> Shared -> Prop} {s : Shared}
theorem un_first {l : Addr} {items : Array Value} {x : Value} {r : List Value} {Q : List Value -> Shared -> Prop} (hh : A.handled = none) (hl : s.heap.IsList l items) (hi : items.toList = x :: r) (hz : items.size <= sizeLine)
  (hQ : ∀ (h' : Heap) (tk : Nat), (∀ b o, s.heap.get? b = some o -> h'.get? b = some o) -> Q [x, .ref h'.objs.size] { s with heap := h'.push { cls := .type "list", data := .seq r.toArray }, toks := tk }) :
  wpAny (model prog w) A (unpackItems (.ref l) 2 (some 1)) Q E s := by
 have hsz : items.size = r.length + 1 := by rw [<- Array.length_toList, hi]; rfl
 obtain ⟨o0, ho0, hrest⟩ := id hl
 have hne : l ≠ s.heap.objs.size := Nat.ne_of_lt (Heap.lt_size ho0)
 have h1 : items.toList.take 1 = [x] := by rw [hi]; rfl
 have h2 : items.toList.drop 1 = r := by rw [hi]; rfl
 unfold unpackItems notIterableAtAll
 refine wpAny_bind (wpAny_bind (wpAny_specialOf hl.typeIs slot_list_iter.lookup (wpAny_pure ?_)))
 simp only [Bool.false_eq_true, if_false]
 refine wpAny_bind (wpAny_holding (wpAny_pyIter_list hl (wpAny_bind (wpAny_holding (PySem.W.kun_draw hne 1 0 _ _ ⟨_, Heap.get?_push_size _ rfl, rfl, rfl⟩ (hl.push _) (by omega) fun ha hit hs => ?_)))))
 have hla : ha.IsList l items := (hl.push _).extBut hs.extBut hne
 obtain ⟨_, hoi, _⟩ := id hit
 obtain ⟨_, hol, _⟩ := id hla
 rw [List.drop_zero, h1]
 rw [if_neg (show ¬([x].length < 1) by simp)]
 refine wpAny_bind (wpAny_holding (PySem.W.kun_collect (s := { s with heap := ha }) (T := "list_iterator") (.inr (.inr (.inl rfl))) (Walks.list (A := A.in1) hh s.heap.objs.size l hne items) (fun j u st => st.1.typeIs) (k := 1) (by omega) ⟨hit, hla⟩ (Heap.lt_size hoi) (Heap.lt_size hol) (fun hb tk hk => ?_) hz))
 rw [h2]
 show wpAny _ _ (if r.length < 0 then _ else newList (r.take (r.length - 0)) >>= fun d => pure ([x] ++ [d] ++ r.drop (r.length - 0))) _ _ _
 rw [if_neg (Nat.not_lt_zero _), Nat.sub_zero, List.take_length, List.drop_length]
 refine wpAny_bind (wpAny_newList (s := { s with heap := hb, toks := tk }) (wpAny_pure ?_) (by omega))
 exact hQ hb tk fun b o e => hk b o (Nat.ne_of_lt (Heap.lt_size e)) (hs.extBut b o (Nat.ne_of_lt (Heap.lt_size e)) (Heap.get?_push_of_some _ e))
end
section
variable {X : Cx} {pos : Pos}
def gFst (K : PySem.W.Frag) (t : TGs) : TG := fun v σ H Q => ∃ a x xs, v = .ref a /\ SqL K H a (x :: xs) /\ ∀ p, H p = none -> t [x, .ref p] σ (upd H p (.lst xs)) Q
theorem pg_fst {es : List Expr} {k : Nat} {t : TGs} (hc : X.calm = true) (h : PGs X es t)
  (hn : (assignEach es X.env).length = 2 := by rfl) (hst : (assignEach es X.env).findIdx? (·.1) = some 1 := by rfl) : PG X (.Tuple es k pos) (gFst X.K t) := by
 refine ⟨fun pins s σ H v u Q I r hw => ?_⟩
 obtain ⟨a, x, xs, rfl, hq, hw⟩ := hw
 cases r
 obtain ⟨its, rv, pl, hz⟩ := I.list hq
 cases rv with
 | @cons _ ux _ us r1 rs =>
  have hl : s.heap.IsList a (ux :: us).toArray := by
   obtain ⟨o, m, e, c, d, q⟩ := pl
   exact ⟨o, e, c, m, q⟩
  have hlen : us.length = xs.length := rs.length.symm
  rw [core_List_length_cons_al] at hz
  rw [PyProof.Rows.assign_Tuple]
  refine wpAny_bind (wpAny_standAt ?_)
  unfold unpack
  rw [hn, hst]
  refine wpAny_bind (wpAny_holding (un_first (x := ux) (r := us) (I.ok.hd hc) hl (by rw [List.toList_toArray]) (by rw [List.size_toArray, core_List_length_cons_al, hlen]; exact hz) fun h' tk hk => ?_))
  have I1 : Inv X pins σ H { s with heap := h', toks := tk } := I.kept hk
  have hp : H h'.objs.size = none := I1.hok.fresh (core_Nat_le_refl_al _)
  have I2 : Inv X pins σ (upd H h'.objs.size (.lst xs)) { s with heap := h'.push { cls := .type "list", data := .seq us.toArray }, toks := tk } := I1.laid (fun b u q => Heap.get?_push_of_some _ q) (core_Nat_le_refl_al _) ⟨by omega, us, _, rs, Heap.get?_push_size _ rfl⟩
  exact h.run pins _ σ _ [x, .ref h'.objs.size] [ux, .ref h'.objs.size] Q I2 (.cons r1 (.cons rfl .nil)) (hw _ hp)
theorem pgs_rest {e : Expr} {p : Pos} {es : List Expr} {u : TGs} (h : PGs X (e :: es) u) (hs : (assignEach (.Starred e p :: es) X.env).map (·.2) = (assignEach (e :: es) X.env).map (·.2) := by rfl) : PGs X (.Starred e p :: es) u := by
 refine ⟨fun pins s σ H vs us Q I r hw => ?_⟩
 rw [hs]
 exact h.run pins s σ H vs us Q I r hw
end
section
variable {K : PySem.W.Frag}
def dgFst (dr : DGs) : DG := fun x ρ => match x with
 | .lst (y :: ys) => dr [y, .lst ys] ρ
 | _ => none
theorem sg_fst {tr : TGs} {dr : DGs} (hr : SGs K tr dr) : SG K (gFst K tr) (dgFst dr) := by
 intro x v ρ ρ' S c σ H Q hK k e r h g
 unfold dgFst at h
 split at h
 next y ys =>
  cases r with
  | lst h1 _ rs =>
   cases rs with
   | @cons _ vy _ vs ry rys =>
    refine ⟨_, vy, vs, rfl, .inl (.inl h1), fun p hp => ?_⟩
    exact hr [y, .lst ys] [vy, .ref p] ρ ρ' S c σ _ Q hK (k.new hp) (e.nxt (Nxt.new hp)) (.cons (ry.nxt (Nxt.new hp)) (.cons (new_lst k hp rys) .nil)) h (g.nxt (Nxt.new hp))
 next => cases h
end
section
variable {X : Cx} {d : Addr} {es : Array DictEntry} {n : Nat} {o e : Expr} {apos cpos : Pos} {ty : TE}
def tKGet (K : PySem.W.Frag) (d : Addr) (ty : TE) : TE := fun σ H Q => ty σ H fun y H1 => ∃ z r v, y = .str z /\ PySem.W.nsIn K d z = some r /\ RelV v (r.getD .none) /\ Q v H1
theorem pe_kget (D : KDict X.K X.w d es n) (ho : PE X o (tC (.ref d))) (he : PE X e ty) (m : M1 X o "get" apos e cpos) : PE X (.Call (.Attribute o "get" apos) [e] [] cpos) (tKGet X.K d ty) := by
 refine ⟨fun pins s σ H Q I h => ?_⟩
 refine wpAny_Call_method m.base m.few m.line PySem.F.plainAttrs_dict PySem.F.slot_dict_get PySem.F.type_dict_get (thn (ho.run pins s σ H (fun v H1 => v = .ref d /\ H1 = H) I ⟨rfl, rfl⟩) fun u s1 ⟨x, H1, I1, rx, ex, eH⟩ => ?_)
 subst ex eH
 obtain rfl : u = Value.ref d := rx
 refine ⟨kd_type D I1, ?_, ?_⟩
 ·intro b q
  cases q
  exact ⟨_, I1.kIn _ _ D.at_, rfl⟩
 ·rw [m.trees]
  refine Calls.callWith_builtin rfl (Calls.evalArgs_plain (Calls.spliced_cons (thn (he.run pins s1 σ _ _ I1 h) fun iv s2 ⟨y, H2, I2, ry, z, r, v, ez, er, rv, q2⟩ => Calls.spliced_nil ?_)))
  subst ez
  obtain ⟨t, rfl⟩ := ry
  refine call_meetsIn PySem.F.slot_dict_get (kd_type D I2) PySem.F.entry_dict_get (PySem.F.args_dict_get_2 _ _) (meets_dict_get (strKind X.prog X.w) d (PySem.strKind_is X.prog X.w z t) D.low) ⟨_, PySem.W.mapOf_K (prog := X.prog) I2.kIn D.at_ D.lit, ?_⟩
  rw [PySem.W.find_K D.at_ er]
  exact ⟨v, H2, I2.tok _, rv, q2⟩
end
section
variable {W : WX} {K : PySem.W.Frag} {d : Addr} {ty : TE} {dy : DE}
structure KTab (K : PySem.W.Frag) (d : Addr) (l : List (Str × AV)) : Prop where
 at_ : ∀ z x, l.lookup z = some x -> ∃ u v, PySem.W.nsIn K d z = some (some u) /\ RelV v u /\ ∀ (c : Co) (H : Hp), c.K = K -> Rel c H x v
 no : ∀ z, l.lookup z = none -> PySem.W.nsIn K d z = some none
def dKGet (l : List (Str × AV)) (dy : DE) : DE := fun ρ S => (dy ρ S).bind fun y S1 => match y with
 | .str z => .ok ((l.lookup z).getD .non) S1
 | _ => .bad
theorem se_kget {l : List (Str × AV)} (T : KTab K d l) (hy : SE W K ty dy) : SE W K (tKGet K d ty) (dKGet l dy) := by
 intro ρ S c σ H Q hK k e h
 refine hy ρ S c σ H _ hK k e (Res.post_mono (Res.post_bind.mp h) (fun y S1 g => ?_) fun _ _ z => z)
 intro c1 H1 v n1 k1 r1
 split at g
 next z =>
  have g : Good c H Q ((l.lookup z).getD .non) S1 := g
  cases r1
  cases q : l.lookup z with
  | none =>
   rw [q] at g
   exact ⟨z, none, .non, rfl, T.no z q, rfl, g c1 H1 _ n1 k1 .non⟩
  | some x =>
   rw [q] at g
   obtain ⟨u, v, h1, h2, h3⟩ := T.at_ z x q
   exact ⟨z, some u, v, rfl, h1, h2, g c1 H1 _ n1 k1 (h3 c1 H1 (n1.K.trans hK))⟩
 next => exact False.elim g
end
structure GlD (K : PySem.W.Frag) (w : World) (mg : Str -> Option Value) (x : Str) (l : List (Str × AV)) where
 a : Addr
 es : Array DictEntry
 n : Nat
 m : mg x = some (.ref a)
 D : KDict K w a es n
 T : KTab K a l
theorem tupAt_ok {K : PySem.W.Frag} {b : Addr} {zs : List Str} (h : tupAt K b zs = true) (H : Hp) : SqT K H b (zs.map V.str) := by
 unfold tupAt at h
 split at h
 next c od its n sl q =>
  obtain ⟨h1, h2⟩ := core_Bool_and_eq_true_iff_al.mp h
  obtain ⟨h3, h4⟩ := core_Bool_and_eq_true_iff_al.mp h2
  have e : c = "tuple" := of_decide_eq_true h1
  subst e
  exact .inr ⟨_, its, n, q, rfl, rfl, of_decide_eq_true h3, He.relAll_ok h4⟩
 next => cases h
def tabA (l : List (Str × List Str)) : List (Str × AV) := l.map fun q => (q.1, .tup false (q.2.map .str))
theorem look_tab {z : Str} {x : AV} : ∀ {l : List (Str × List Str)}, (tabA l).lookup z = some x -> ∃ q ∈ l, q.1 = z /\ x = .tup false (q.2.map .str)
 | [], h => by cases h
 | q :: l, h => by
  have h : ((q.1, AV.tup false (q.2.map .str)) :: tabA l).lookup z = some x := h
  rw [List.lookup_cons] at h
  cases e : z == q.1 with
  | true =>
   rw [e] at h
   cases h
   exact ⟨q, core_List_mem_cons_self_al, (beq_iff_eq.mp e).symm, rfl⟩
  | false =>
   rw [e] at h
   obtain ⟨r, hr, e1, e2⟩ := look_tab h
   exact ⟨r, core_List_mem_cons_of_mem_al _ hr, e1, e2⟩
theorem look_no {z : Str} : ∀ {l : List (Str × List Str)}, (tabA l).lookup z = none -> z ∉ l.map (·.1)
 | [], _ => core_List_not_mem_nil_al
 | q :: l, h => fun hm => by
  have h : ((q.1, AV.tup false (q.2.map .str)) :: tabA l).lookup z = none := h
  rw [List.lookup_cons] at h
  cases e : z == q.1 with
  | true => rw [e] at h; cases h
  | false =>
   rw [e] at h
   rcases core_List_mem_cons_al.mp hm with r | r
   ·rw [show z = q.1 from r, beq_self_eq_true] at e
    cases e
   ·exact look_no h r
theorem dic_keys {K : PySem.W.Frag} {a : Addr} {es : Array DictEntry} {n : Nat} {ks : List (Option (Str × Int))} (hl : K.lookup a = some ⟨.type "dict", none, .dict es n, #[]⟩) (h : He.dicW K a = some ks) : es.toList.map He.keyOf = ks := by
 unfold He.dicW at h
 rw [hl] at h
 dsimp only at h
 split at h
 next => exact Option.some.inj h
 next => cases h
theorem dic_no {K : PySem.W.Frag} {P : Params} {a : Addr} {es : Array DictEntry} {n : Nat} {ks : List Str} {z : Str} (hl : K.lookup a = some ⟨.type "dict", none, .dict es n, #[]⟩) (h : es.toList.map He.keyOf = He.keysIn P ks) (hz : z ∉ ks) : PySem.W.nsIn K a z = some none := by
 have key : ∀ e ∈ es.toList, ∃ k t, k ∈ ks /\ e.key = .str k t := fun e he => by
  have hm : He.keyOf e ∈ He.keysIn P ks := by rw [<- h]; exact core_List_mem_map_of_mem_al he
  obtain ⟨k, hk, e1⟩ := core_List_mem_map_al.mp hm
  unfold He.keyOf at e1
  split at e1
  next x t q =>
   have e2 := Option.some.inj e1
   have e3 : k = x := congrArg (·.1) e2
   exact ⟨k, t, hk, by rw [q, e3]⟩
  next => cases e1
 unfold PySem.W.nsIn
 rw [hl]
 dsimp only
 have e1 : es.toList.find? (fun e => e.key.isStr z) = none := List.find?_eq_none.mpr fun e he hs => by
  obtain ⟨k, t, hk, ek⟩ := key e he
  rw [ek] at hs
  have hs : (k == z) = true := hs
  rw [beq_iff_eq.mp hs] at hk
  exact hz hk
 have e2 : es.toList.any (·.refKey) = false := List.any_eq_false.mpr fun e he hs => by
  obtain ⟨k, t, _, ek⟩ := key e he
  unfold DictEntry.refKey at hs
  rw [ek] at hs
  cases hs
 rw [e1, e2]
 rfl
theorem gd_of {K : PySem.W.Frag} {w : World} {mg : Str -> Option Value} {x : Str} {a : Addr} {l : List (Str × List Str)} (m : mg x = some (.ref a)) (h : He.dicW K a = some (He.keysIn w.params (l.map (·.1)))) (ht : tabB K a l = true) (hs : (l.all fun q => q.2.all sokB) = true) : Nonempty (GlD K w mg x (tabA l)) := by
 obtain ⟨es, n, D⟩ := He.dicW_ok h
 have hk := dic_keys D.at_ h
 refine ⟨⟨a, es, n, m, D, fun z x hx => ?_, fun z hz => dic_no D.at_ hk (look_no hz)⟩⟩
 obtain ⟨q, hq, rfl, rfl⟩ := look_tab hx
 have t := List.all_eq_true.mp ht q hq
 have hsq := List.all_eq_true.mp hs q hq
 split at t
 next b e => exact ⟨.ref b, .ref b, e, rfl, fun c H hK => .tup (by rw [hK]; exact tupAt_ok t H) (fun z => Bool.noConfusion z) (strs_rels hsq)⟩
 next => cases t
theorem mt_joinR {X : Cx} : MtR X "str.join" (rJoin X.K) := mt_join
theorem mt_splitR {X : Cx} : MtR X "str.split" rSplit := mt_split
theorem mt_findR {X : Cx} : MtR X "str.find" rFind := mt_find
theorem mt_upperR {X : Cx} : MtR X "str.upper" rUpper := mt_upper
theorem call_intS {X : Cx} : CallR X (.type "int") rIntS := call_int_str
theorem k_gfst {X : Cx} {K : PySem.W.Frag} (hK : X.K = K) {es : List Expr} {k : Nat} {t : TGs} {pos : Pos} (hc : X.calm = true) (h : PGs X es t)
  (hn : (assignEach es X.env).length = 2 := by rfl) (hst : (assignEach es X.env).findIdx? (·.1) = some 1 := by rfl) : PG X (.Tuple es k pos) (gFst K t) := hK ▸ pg_fst hc h hn hst
theorem k_kget {X : Cx} {K : PySem.W.Frag} {w : World} (hK : X.K = K) (hw : X.w = w := by rfl) {d : Addr} {es : Array DictEntry} {n : Nat} {o e : Expr} {apos cpos : Pos} {ty : TE} (D : KDict K w d es n) (ho : PE X o (tC (.ref d))) (he : PE X e ty) (m : M1 X o "get" apos e cpos) : PE X (.Call (.Attribute o "get" apos) [e] [] cpos) (tKGet K d ty) := by
 subst hK hw
 exact pe_kget D ho he m
section
variable {X : Cx} {a b c : Expr} {tc ta tb : TT} {pos : Pos}
def tIfT (tc ta tb : TT) : TT := fun σ H Q => tc σ H fun z H1 => if z = true then ta σ H1 Q else tb σ H1 Q
theorem pt_ifT (hc : PT X c tc) (ha : PT X a ta) (hb : PT X b tb) : PT X (.IfExp c a b pos) (tIfT tc ta tb) := by
 refine ⟨fun pins s σ H Q I h => ?_⟩
 rw [arm_isTrue_IfExp]
 refine wpAny_bind (thn (hc.run pins s σ H _ I h) fun z s1 ⟨H1, I1, q1⟩ => ?_)
 cases z with
 | true => exact ha.run pins s1 σ H1 Q I1 q1
 | false => exact hb.run pins s1 σ H1 Q I1 q1
end
section
variable {W : WX} {K : PySem.W.Frag} {tc ta tb : TT} {dc da db : DT}
def dIfT (dc da db : DT) : DT := fun ρ S => (dc ρ S).bind fun z S1 => if z = true then da ρ S1 else db ρ S1
theorem st_ifT (hc : ST W K tc dc) (ha : ST W K ta da) (hb : ST W K tb db) : ST W K (tIfT tc ta tb) (dIfT dc da db) := by
 intro ρ S c σ H Q hK k e h
 refine hc ρ S c σ H _ hK k e (Res.post_mono (Res.post_bind.mp h) (fun z S1 h1 => ?_) fun _ _ z => z)
 intro c1 H1 n1 k1
 have hK1 := n1.K.trans hK
 cases z with
 | true => exact ha ρ S1 c1 σ H1 Q hK1 k1 (e.nxt n1) (Res.post_mono h1 (fun x S2 g c2 H2 n2 k2 => g c2 H2 (n1.trans n2) k2) fun _ _ z => z.nxt n1)
 | false => exact hb ρ S1 c1 σ H1 Q hK1 k1 (e.nxt n1) (Res.post_mono h1 (fun x S2 g c2 H2 n2 k2 => g c2 H2 (n1.trans n2) k2) fun _ _ z => z.nxt n1)
end
end Dl
namespace Dn
open PySem PySem.Spec PyProof.Rows L2 Evl Cm Dl
def gd_DEEDS : List (Str × AV) := Dl.tabA [("edit", Q9.i), ("fire", ["name"]), ("set", Q9.j), ("reload", [])]
def d_is_digit : DS := (dRet (dAndV (dOp (fEq false) (dCB fLen (dCons (dVar 0) dNil)) (dC (.int 1))) (dOp (fIn false) (dVar 0) (dC (.str "0123456789")))))
def F_is_digit : FD := runD (d_is_digit) 1
def d_write_deed : DS := (dRet (dBM "str" fJoin (dC (.str " ")) (dCons (dFz (dlLc (diAny (dVar 0)) (dgName 1) dYes (dCB fStrA (dCons (dVar 1) dNil)) [1])) dNil)))
def F_write_deed : FD := runD (d_write_deed) 2
def d_write_deeds : DS := (dRet (dBM "str" fJoin (dC (.str "\n")) (dCons (dFz (dlLc (diAny (dVar 0)) (dgName 1) dYes (dCall 1 F_write_deed (dCons (dVar 1) dNil)) [1])) dNil)))
def F_write_deeds : FD := runD (d_write_deeds) 2
def d_read_deed : DS := (dSeq (dAsg (dFz (dlSplit (dVar 0) (dCons (dC (.str " ")) dNil))) (dgFst (dgCons (dgName 1) (dgCons (dgName 2) dgNil))))
 (dSeq (dAsg (dKGet gd_DEEDS (dVar 1)) (dgName 3))
 (dSeq (dIfS (dOr (dTest (dOp (fIsN false) (dVar 3) (dC .non))) (dTest (dOp (fEq true) (dCB fLen (dCons (dVar 3) dNil)) (dCB fLen (dCons (dVar 2) dNil))))) (dRet (dC .non)) dNext)
 (dSeq (dFor (diZip (dCons (dVar 3) (dCons (dVar 2) dNil))) (dgTup 2 (dgCons (dgName 4) (dgCons (dgName 5) dgNil)))
 (dIfS (dNot (dIfT (dTest (dOp (fEq false) (dVar 4) (dC (.str "name")))) (dTest (dCall 1 F_is_name (dCons (dVar 5) dNil))) (dTest (dCall 1 F_is_digit (dCons (dVar 5) dNil))))) (dRet (dC .non)) dNext))
 (dRet (dOp fAdd (dTup (dCons (dVar 1) dNil)) (dCB fTupL (dCons (dFz (dlLc (diZip (dCons (dVar 3) (dCons (dVar 2) dNil))) (dgTup 2 (dgCons (dgName 4) (dgCons (dgName 5) dgNil))) dYes (dIf (dTest (dOp (fEq false) (dVar 4) (dC (.str "name")))) (dVar 5) (dCB fIntS (dCons (dVar 5) dNil))) [4, 5])) dNil))))))))
def F_read_deed : FD := runD (d_read_deed) 6
def d_read_deeds : DS := (dSeq (dIfS (dTest (dOp (fEq false) (dVar 0) (dC (.str "")))) (dRet (dTupF dNil)) dNext)
 (dSeq (dAsg (dTh (dlLst dNil)) (dgName 1))
 (dSeq (dFor (diEn (dCons (dFz (dlSplit (dVar 0) (dCons (dC (.str "\n")) dNil))) dNil)) (dgTup 2 (dgCons (dgName 2) (dgCons (dgName 3) dgNil)))
 (dSeq (dAsg (dCall 1 F_read_deed (dCons (dVar 3) dNil)) (dgName 4))
 (dSeq (dIfS (dTest (dOp (fIsN false) (dVar 4) (dC .non))) (dRaise "InvalidText" "line" smI idA (dCons (dOp fAdd (dVar 2) (dC (.int 1))) dNil)) dNext)
 (dDrop (dBM "list" fAppend (dVar 1) (dCons (dVar 4) dNil))))))
 (dRet (dCB fTupL (dCons (dVar 1) dNil))))))
def F_read_deeds : FD := runD (d_read_deeds) 5
def d__law_line : DS := (dRet (dBM "str" fJoin (dC (.str " ")) (dCons (dFz (dlLc (diAny (dVar 0)) (dgName 1) dYes (dCB fStrA (dCons (dVar 1) dNil)) [1])) dNil)))
def F__law_line : FD := runD (d__law_line) 2
def d__law_any_deed : DS := (dSeq (dAsg (dCall 2 F__law_draw (dCons (dVar 0) (dCons (dC (.int 4)) dNil))) (dgName 3))
 (dSeq (dIfS (dTest (dOp (fEq false) (dVar 3) (dC (.int 0)))) (dRet (dTup (dCons (dC (.str "edit")) (dCons (dCall 2 F__law_pick (dCons (dVar 0) (dCons (dVar 1) dNil))) (dCons (dCall 2 F__law_draw (dCons (dVar 0) (dCons (dVar 2) dNil))) dNil))))) dNext)
 (dSeq (dIfS (dTest (dOp (fEq false) (dVar 3) (dC (.int 1)))) (dRet (dTup (dCons (dC (.str "fire")) (dCons (dCall 2 F__law_pick (dCons (dVar 0) (dCons (dVar 1) dNil))) dNil)))) dNext)
 (dSeq (dIfS (dTest (dOp (fEq false) (dVar 3) (dC (.int 2)))) (dRet (dTup (dCons (dC (.str "set")) (dCons (dCall 2 F__law_pick (dCons (dVar 0) (dCons (dVar 1) dNil))) (dCons (dCall 2 F__law_pick (dCons (dVar 0) (dCons (dVar 1) dNil))) dNil))))) dNext)
 (dRet (dTup (dCons (dC (.str "reload")) dNil)))))))
def F__law_any_deed : FD := runD (d__law_any_deed) 4
def d__law_wrong_line : DS := (dSeq (dAsg (dCall 1 F__law_line (dCons (dVar 1) dNil)) (dgName 2))
 (dSeq (dAsg (dCall 2 F__law_draw (dCons (dVar 0) (dCons (dC (.int 4)) dNil))) (dgName 3))
 (dSeq (dIfS (dTest (dOp (fEq false) (dVar 3) (dC (.int 0)))) (dSeq (dAsg (dCall 2 F__law_pick (dCons (dVar 0) (dCons (dLst (dCons (dC (.int 0)) (dCons (dCB fLen (dCons (dVar 2) dNil)) (dCons (dOp fAdd (dBM "str" fFind (dVar 2) (dCons (dC (.str " ")) dNil)) (dC (.int 1))) dNil)))) dNil))) (dgName 4))
 (dRet (dOp fAdd (dOp fAdd (dSl (dVar 2) dNo (dSo (dVar 4))) (dC (.str " "))) (dSl (dVar 2) (dSo (dVar 4)) dNo)))) dNext)
 (dSeq (dIfS (dTest (dOp (fEq false) (dVar 3) (dC (.int 1)))) (dRet (dOp fAdd (dOp fAdd (dVar 2) (dC (.str " "))) (dCall 2 F__law_pick (dCons (dVar 0) (dCons (dLst (dCons (dC (.str "a")) (dCons (dC (.str "0")) (dCons (dC (.str "Q")) (dCons (dC (.str "")) dNil))))) dNil))))) dNext)
 (dSeq (dIfS (dTest (dOp (fEq false) (dVar 3) (dC (.int 2)))) (dRet (dOp fAdd (dBM "str" fUpper (dSl (dVar 2) dNo (dSo (dC (.int 1)))) dNil) (dSl (dVar 2) (dSo (dC (.int 1))) dNo))) dNext)
 (dRet (dCall 2 F__law_pick (dCons (dVar 0) (dCons (dLst (dCons (dC (.str "")) (dCons (dC (.str "edit a")) (dCons (dC (.str "edit a 10")) (dCons (dC (.str "edit a -1")) (dCons (dC (.str "edit a b")) (dCons (dC (.str "edit A 0")) (dCons (dC (.str "fire")) (dCons (dC (.str "fire a1")) (dCons (dC (.str "fire abcdefghi")) (dCons (dC (.str "set a")) (dCons (dC (.str "set a B")) (dCons (dC (.str "set a 0")) (dCons (dC (.str "undo")) (dCons (dC (.str "state")) (dCons (dC (.str "reload reload")) (dCons (dC (.str "fire a b")) (dCons (dC (.str "edit  0")) (dCons (dC (.str "edit a 00")) dNil))))))))))))))))))) dNil)))))))))
def F__law_wrong_line : FD := runD (d__law_wrong_line) 5
def d__law_read : DS := (dSeq (dTryAs "InvalidText" (dAsg (dCall 1 F_read_deeds (dCons (dVar 0) dNil)) (dgName 1)) (suRetX 2 (fun fs => (dTup (dCons (dC (.str "line")) (dCons (dXf "line" fs) dNil))))))
 (dRet (dTup (dCons (dC (.str "deeds")) (dCons (dVar 1) dNil)))))
def F__law_read : FD := runD (d__law_read) 3
def d_law_rest : DS :=
 (dSeq (dAsg (dOp (fEq false) (dCall 2 F__law_draw (dCons (dVar 11) (dCons (dC (.int 2)) dNil))) (dC (.int 0))) (dgName 1))
 (dSeq (dAsg (dOp (fEq false) (dCall 2 F__law_draw (dCons (dVar 11) (dCons (dC (.int 2)) dNil))) (dC (.int 0))) (dgName 2))
 (dSeq (dAsg (dCall 2 F__law_names (dCons (dVar 11) (dCons (dOp fAdd (dC (.int 1)) (dCall 2 F__law_draw (dCons (dVar 11) (dCons (dC (.int 6)) dNil)))) dNil))) (dgName 10))
 (dSeq (dAsg (dFz (dlLc (diRng1 (dCons (dCall 2 F__law_draw (dCons (dVar 11) (dCons (dC (.int 21)) dNil))) dNil)) (dgName 12) dYes (dCall 3 F__law_any_deed (dCons (dVar 11) (dCons (dVar 10) (dCons (dC (.int 10)) dNil)))) [12])) (dgName 3))
 (dSeq (dAsg (dFz (dlLc (diRng1 (dCons (dCall 2 F__law_draw (dCons (dVar 11) (dCons (dC (.int 21)) dNil))) dNil)) (dgName 12) dYes (dCall 3 F__law_any_deed (dCons (dVar 11) (dCons (dVar 10) (dCons (dC (.int 3)) dNil)))) [12])) (dgName 4))
 (dSeq (dAsg (dCB fTupL (dCons (dVar 4) dNil)) (dgName 5))
 (dSeq (dIfS (dTru (dVar 2)) (dAsg (dFz (dlCB flList (dCons (dVar 4) dNil))) (dgName 5)) dNext)
 (dSeq (dAsg (dBM "str" fJoin (dC (.str "\n")) (dCons (dFz (dlLc (diAny (dVar 4)) (dgName 13) dYes (dCall 1 F__law_line (dCons (dVar 13) dNil)) [13])) dNil)) (dgName 6))
 (dSeq (dIfS (dOr (dNot (dTest (dCall 2 (Fsame 12) (dCons (dCall 1 F_write_deeds (dCons (dVar 5) dNil)) (dCons (dVar 6) dNil))))) (dTest (dOp (fEq true) (dFz (dlCB flList (dCons (dVar 5) dNil))) (dVar 4)))) (dRet (dC (.bl false))) dNext)
 (dSeq (dIfS (dNot (dTest (dCall 2 (Fsame 12) (dCons (dCall 1 F__law_read (dCons (dVar 6) dNil)) (dCons (dTup (dCons (dC (.str "deeds")) (dCons (dCB fTupL (dCons (dVar 4) dNil)) dNil))) dNil))))) (dRet (dC (.bl false))) dNext)
 (dSeq (dAsg (dTh (dlLc (diAny (dVar 3)) (dgName 13) dYes (dCall 1 F__law_line (dCons (dVar 13) dNil)) [13])) (dgName 7))
 (dSeq (dIfS (dNot (dTest (dCall 2 (Fsame 12) (dCons (dCall 1 F__law_read (dCons (dBM "str" fJoin (dC (.str "\n")) (dCons (dVar 7) dNil)) dNil)) (dCons (dTup (dCons (dC (.str "deeds")) (dCons (dCB fTupL (dCons (dVar 3) dNil)) dNil))) dNil))))) (dRet (dC (.bl false))) dNext)
 (dSeq (dIfS (dAnd (dTru (dVar 1)) (dTest (dOp fGt (dCB fLen (dCons (dVar 7) dNil)) (dC (.int 0))))) (dSeq (dAsg (dCall 2 F__law_draw (dCons (dVar 11) (dCons (dCB fLen (dCons (dVar 7) dNil)) dNil))) (dgName 8))
 (dSeq (dAsg (dCall 2 F__law_wrong_line (dCons (dVar 11) (dCons (dOp fIx (dVar 3) (dVar 8)) dNil))) (dgName 9))
 (dSeq (dIfS (dAnd (dTest (dOp (fEq false) (dVar 9) (dC (.str "")))) (dTest (dOp (fEq false) (dCB fLen (dCons (dVar 7) dNil)) (dC (.int 1))))) (dRet (dCall 2 (Fsame 12) (dCons (dCall 1 F__law_read (dCons (dC (.str "\n")) dNil)) (dCons (dTup (dCons (dC (.str "line")) (dCons (dC (.int 1)) dNil))) dNil)))) dNext)
 (dSeq (dIfS (dTest (dOp (fEq false) (dCall 2 F__law_draw (dCons (dVar 11) (dCons (dC (.int 2)) dNil))) (dC (.int 0)))) (dAsg (dTh (dlAddL (dOp fAdd (dSl (dVar 7) dNo (dSo (dVar 8))) (dLst (dCons (dVar 9) dNil))) (dSl (dVar 7) (dSo (dOp fAdd (dVar 8) (dC (.int 1)))) dNo))) (dgName 7)) (dAsg (dTh (dlAddL (dOp fAdd (dSl (dVar 7) dNo (dSo (dVar 8))) (dLst (dCons (dVar 9) dNil))) (dSl (dVar 7) (dSo (dVar 8)) dNo))) (dgName 7)))
 (dSeq (dIfS (dTest (dOp (fEq false) (dCall 2 F__law_draw (dCons (dVar 11) (dCons (dC (.int 3)) dNil))) (dC (.int 0)))) (dDrop (dBM "list" fAppend (dVar 7) (dCons (dC (.str "Q")) dNil))) dNext)
 (dRet (dCall 2 (Fsame 12) (dCons (dCall 1 F__law_read (dCons (dBM "str" fJoin (dC (.str "\n")) (dCons (dVar 7) dNil)) dNil)) (dCons (dTup (dCons (dC (.str "line")) (dCons (dOp fAdd (dVar 8) (dC (.int 1))) dNil))) dNil))))))))) dNext)
 (dRet (dCall 2 (Fsame 12) (dCons (dCall 1 F__law_read (dCons (dOp fAdd (dVar 6) (dC (.str "\n"))) dNil)) (dCons (dIf (dTest (dOp fGt (dCB fLen (dCons (dVar 4) dNil)) (dC (.int 0)))) (dTup (dCons (dC (.str "line")) (dCons (dCB fMax2 (dCons (dC (.int 1)) (dCons (dOp fAdd (dCB fLen (dCons (dVar 4) dNil)) (dC (.int 1))) dNil))) dNil))) (dTup (dCons (dC (.str "line")) (dCons (dC (.int 1)) dNil)))) dNil)))))))))))))))))
theorem smI_inv {x : AV} (h : smI x = true) : ∃ i : Int, x = .int i /\ i.natAbs.log2 < 1920 := by
 cases x with
 | int i => exact ⟨i, rfl, of_decide_eq_true h⟩
 | _ => exact absurd h (by simp [smI])
end Dn
namespace Dl
open PySem PySem.Spec PyProof.Rows L2 Evl Cm
theorem rmo {j k : Nat} {A : Around} (r : Room k A) (h : j <= k := by omega) : Room j A := r.mono h
theorem fsc {N ps : List Str} {sc : Scope} (a : sc.kind = .function := by rfl) (b : sc.isCoroutine = false := by rfl) (c : sc.isGenerator = false := by rfl) (d : N.Nodup := by decide +kernel) (e : N.take ps.length = ps := by rfl) (f : ∀ x ∈ ps, sc.names.lookup x = some .local ∨ sc.names.lookup x = some .cell := by decide +kernel) (g : ∀ y ∈ sc.names, y.2 ≠ .free := by decide +kernel) : FnScope N ps sc := ⟨a, b, c, d, e, f, g⟩
section
variable {X : Cx} {E : XK} {E₁ : Value -> Shared -> Prop} {K : PySem.W.Frag} {n : Nat} {a b : Expr} {ta tb : TE} {pos : Pos}
theorem psR (hs : X.stack = X.env :: X.outer) (hf : X.env.frame = some X.env.locals) (hex : X.ex = []) (hx : X.xe = fun e s' => wpAny (model X.prog X.w) X.A (leaving X.env e) (fun _ s'' => L2N.CX X.prog X.w X.outer X.H_0 X.s_0 E e s'') E₁ s') (σ : L2.St) : PassesAt (L2N.CX X.prog X.w) X σ (WE (WO E) σ) := passS (L2N.takes_of hs hf hex hx) σ
theorem pqi (hK : X.K = K) (r : Room n X.A) (ha : PE X a ta) (hb : PE X b tb) (hs : PlainIx b := by exact fun _ _ => rfl) : PE X (.Subscript a b pos) (tOp (rIxA K) ta tb) := pe_ix (k_ix hK (u65 r)) ha hb hs
theorem pgn {i : Nat} {x : Str} (hN : X.N.Nodup) (hi : X.N[i]? = some x := by rfl) (hx : Loc X.env.scope x := by exact Or.inl rfl) (hf : X.fn x = true ∨ X.env.scope.names.lookup x = some .local := by first | exact .inl rfl | exact .inr rfl | assumption) : PG X (.Name x pos) (gName i) := pg_name hN hi hx hf
end
end Dl
namespace Dn
open PySem PySem.Spec PyProof.Rows L2 Evl Cm Dl
open My (top)
section
variable {P : Program} {w : World} {K : PySem.W.Frag} {mg : Str -> Option Value} {base : Heap}
abbrev N__law_draw : List Str := ["_law_pool_here", "_law_many", "_law_great", "_law_digit", "_law_seed", "_law_number"]
theorem sc__law_draw : FnScope N__law_draw Q9.b (defScope s__law_draw) := fsc
theorem dn__law_draw (T : TxN mg)
  {f : Addr} {fd : FuncData} (F : Fun K "_law_draw" "_law_draw" s__law_draw f fd) : FnOk P w K mg base (L2N.CX P w) 1 f fd Q9.b (conc K 2 (F__law_draw)) :=
 fun_den (k := 0) (ps := Q9.b) F sc__law_draw (fun cdv A outer s H E hr => ⟨_,
 (pss_cons_al (ps_if (PW.pt (pw_and (pt_cmpR (k_eq rfl (u65 hr)) (pqi rfl hr (pv 0) pe_int) pe_int (nomark _)) (pw_and1 (pt_cmpR op_gt (pe_callB (k_len rfl) (by rfl) T.b_len (by decide +kernel) (pa_cons_al (pqi rfl hr (pv 0) pe_int) pa_nil_al)) pe_int (nomark _))))) (pss_cons_al (ps_asg (pqi rfl hr (pv 0) pe_int) (pgn (i := 2) sc__law_draw.nd))
 (pss_cons_al (ps_asg (pqi rfl hr (pv 2) pe_int) (pg_sub (pv 0) pe_int set_list))
 (pss_one (ps_asg (pe_slice (k_sl rfl) (pv 2) (po_some pe_int) po_none) (pg_sub (pv 0) pe_int set_list))))) pss_nil)
 (pss_cons_al (ps_if (pt_cmpR op_gt (pqi rfl hr (pv 0) pe_int) pe_int (nomark _)) (pss_cons_al (ps_asg (pe_op op_mod (pe_callTy call_int1 (by rfl) T.b_int (by decide +kernel) (pa_cons_al (pqi rfl hr (pv 0) pe_int) pa_nil_al)) (pv 1)) (pgn (i := 3) sc__law_draw.nd))
 (pss_cons_al (ps_asg (pe_op op_fdiv (pqi rfl hr (pv 0) pe_int) (pv 1)) (pg_sub (pv 0) pe_int set_list))
 (pss_one (ps_ret (pv 3))))) pss_nil)
 (pss_cons_al (ps_asg (pe_op (k_add rfl) (pqi rfl hr (pv 0) pe_int) pe_int) (pg_sub (pv 0) pe_int set_list))
 (pss_cons_al (ps_asg pe_int (pgn (i := 4) sc__law_draw.nd))
 (pss_cons_al (ps_if (pt_cmpR op_gt (pe_callB (k_len rfl) (by rfl) T.b_len (by decide +kernel) (pa_cons_al (pqi rfl hr (pv 0) pe_int) pa_nil_al)) pe_int (nomark _)) (pss_one (ps_asg (pqi rfl hr (pqi rfl hr (pv 0) pe_int) (pe_op op_mod (pe_callTy call_int1 (by rfl) T.b_int (by decide +kernel) (pa_cons_al (pqi rfl hr (pv 0) pe_int) pa_nil_al)) (pe_callB (k_len rfl) (by rfl) T.b_len (by decide +kernel) (pa_cons_al (pqi rfl hr (pv 0) pe_int) pa_nil_al)))) (pgn (i := 4) sc__law_draw.nd))) pss_nil)
 (pss_cons_al (ps_asg (pe_op op_mod (pe_callTy call_int1 (by rfl) T.b_int (by decide +kernel) (pa_cons_al (pe_op op_mul (pe_op (k_add rfl) (pe_op (k_add rfl) (pv 4) (pe_op op_mul pe_int (pqi rfl hr (pv 0) pe_int))) pe_int) pe_int) pa_nil_al)) pe_int) (pgn (i := 5) sc__law_draw.nd))
 (pss_cons_al (ps_asg (pe_op op_mod (pe_callTy call_int1 (by rfl) T.b_int (by decide +kernel) (pa_cons_al (pe_op op_mul (pv 5) (pe_op (k_add rfl) (pe_op op_fdiv (pv 5) pe_int) pe_int)) pa_nil_al)) pe_int) (pgn (i := 5) sc__law_draw.nd))
 (pss_cons_al (ps_asg (pe_op op_mod (pe_callTy call_int1 (by rfl) T.b_int (by decide +kernel) (pa_cons_al (pe_op op_mul (pv 5) (pe_op (k_add rfl) (pe_op op_fdiv (pv 5) pe_int) pe_int)) pa_nil_al)) pe_int) (pgn (i := 5) sc__law_draw.nd))
 (pss_one (ps_ret (pe_op op_mod (pe_callTy call_int1 (by rfl) T.b_int (by decide +kernel) (pa_cons_al (pe_op op_fdiv (pv 5) pe_int) pa_nil_al)) (pv 1)))))))))))),
 (ss_seq (ss_if (st_and (st_test (se_op so_eq (se_op so_ix se_var se_int) se_int)) (st_test (se_op so_gt (se_cb sc_len (sa_cons (se_op so_ix se_var se_int) sa_nil)) se_int))) (ss_seq (ss_asg (se_op so_ix se_var se_int) sg_name)
 (ss_seq (ss_lset se_var se_int (se_op so_ix se_var se_int))
 (ss_lset se_var se_int (se_sl se_var (sp_some se_int) sp_none)))) ss_next)
 (ss_seq (ss_if (st_test (se_op so_gt (se_op so_ix se_var se_int) se_int)) (ss_seq (ss_asg (se_op so_mod (se_cb sc_int (sa_cons (se_op so_ix se_var se_int) sa_nil)) se_var) sg_name)
 (ss_seq (ss_lset se_var se_int (se_op so_fdiv (se_op so_ix se_var se_int) se_var))
 (ss_ret se_var))) ss_next)
 (ss_seq (ss_lset se_var se_int (se_op so_add (se_op so_ix se_var se_int) se_int))
 (ss_seq (ss_asg se_int sg_name)
 (ss_seq (ss_if (st_test (se_op so_gt (se_cb sc_len (sa_cons (se_op so_ix se_var se_int) sa_nil)) se_int)) (ss_asg (se_op so_ix (se_op so_ix se_var se_int) (se_op so_mod (se_cb sc_int (sa_cons (se_op so_ix se_var se_int) sa_nil)) (se_cb sc_len (sa_cons (se_op so_ix se_var se_int) sa_nil)))) sg_name) ss_next)
 (ss_seq (ss_asg (se_op so_mod (se_cb sc_int (sa_cons (se_op so_mul (se_op so_add (se_op so_add se_var (se_op so_mul se_int (se_op so_ix se_var se_int))) se_int) se_int) sa_nil)) se_int) sg_name)
 (ss_seq (ss_asg (se_op so_mod (se_cb sc_int (sa_cons (se_op so_mul se_var (se_op so_add (se_op so_fdiv se_var se_int) se_int)) sa_nil)) se_int) sg_name)
 (ss_seq (ss_asg (se_op so_mod (se_cb sc_int (sa_cons (se_op so_mul se_var (se_op so_add (se_op so_fdiv se_var se_int) se_int)) sa_nil)) se_int) sg_name)
 (ss_ret (se_op so_mod (se_cb sc_int (sa_cons (se_op so_fdiv se_var se_int) sa_nil)) se_var))))))))))⟩)
abbrev N__law_name : List Str := ["_law_pool_here", "_law_taken", "_law_letters", "_law_size", "_law_word", "_law_k"]
theorem sc__law_name : FnScope N__law_name Q9.e (defScope s__law_name) := fsc
theorem dn__law_name (T : TxN mg)
  (D__law_draw : DfN P w K mg base 1 "_law_draw" Q9.b F__law_draw)
  {f : Addr} {fd : FuncData} (F : Fun K "_law_name" "_law_name" s__law_name f fd) : FnOk P w K mg base (L2N.CX P w) 2 f fd Q9.e (conc K 2 (F__law_name)) :=
 fun_den (k := 1) (ps := Q9.e) F sc__law_name (fun cdv A outer s H E hr => ⟨_,
 (pss_cons_al (ps_asg pe_str (pgn (i := 2) sc__law_name.nd))
 (pss_cons_al (ps_asg (pe_op (k_add rfl) pe_int (pe_callS (E := WE (WO E)) D__law_draw.G (rmo hr) rfl D__law_draw.m D__law_draw.kp D__law_draw.b (psR rfl rfl rfl rfl) (by exact (pa_cons_al (pv 0) (pa_cons_al pe_int pa_nil_al))))) (pgn (i := 3) sc__law_name.nd))
 (pss_cons_al (ps_asg (pqi rfl hr (pv 2) (pe_callS (E := WE (WO E)) D__law_draw.G (rmo hr) rfl D__law_draw.m D__law_draw.kp D__law_draw.b (psR rfl rfl rfl rfl) (by exact (pa_cons_al (pv 0) (pa_cons_al (pe_op op_sub pe_int (pe_callTy call_int1 (by rfl) T.b_int (by decide +kernel) (pa_cons_al (pe_cmpR (k_eq rfl (u65 hr)) (pv 3) pe_int (nomark _)) pa_nil_al))) pa_nil_al))))) (pgn (i := 4) sc__law_name.nd))
 (pss_cons_al (ps_for (passes_of rfl) rfl (pi_range1 (by rfl) T.b_range (pa_cons_al (pe_op op_sub (pv 3) pe_int) pa_nil_al)) (pgn (i := 5) sc__law_name.nd)
 (pss_one (ps_asg (pe_op (k_add rfl) (pv 4) (pqi rfl hr (pv 2) (pe_callS (E := WE (WO E)) D__law_draw.G (rmo hr) rfl D__law_draw.m D__law_draw.kp D__law_draw.b (psR rfl rfl rfl rfl) (by exact (pa_cons_al (pv 0) (pa_cons_al pe_int pa_nil_al)))))) (pgn (i := 4) sc__law_name.nd))))
 (pss_cons_al (ps_if (PW.pt (pw_or (pt_cmpR (k_in rfl (u65 hr)) (pv 4) (pv 1) (by rfl)) (pw_or1 (pt_cmpR (k_eq rfl (u65 hr)) (pv 4) pe_str (nomark _))))) (pss_one (ps_ret (pe_op (k_add rfl) pe_str (pqi rfl hr (pv 2) (pe_callB (k_len rfl) (by rfl) T.b_len (by decide +kernel) (pa_cons_al (pv 1) pa_nil_al)))))) pss_nil)
 (pss_one (ps_ret (pv 4)))))))),
 (ss_seq (ss_asg se_str sg_name)
 (ss_seq (ss_asg (se_op so_add se_int (se_call (sa_cons se_var (sa_cons se_int sa_nil)))) sg_name)
 (ss_seq (ss_asg (se_op so_ix se_var (se_call (sa_cons se_var (sa_cons (se_op so_sub se_int (se_cb sc_int (sa_cons (se_op so_eq se_var se_int) sa_nil))) sa_nil)))) sg_name)
 (ss_seq (ss_for (si_rng1 (sa_cons (se_op so_sub se_var se_int) sa_nil)) sg_name
 (ss_asg (se_op so_add se_var (se_op so_ix se_var (se_call (sa_cons se_var (sa_cons se_int sa_nil))))) sg_name))
 (ss_seq (ss_if (st_or (st_test (se_op so_in se_var se_var)) (st_test (se_op so_eq se_var se_str))) (ss_ret (se_op so_add se_str (se_op so_ix se_var (se_cb sc_len (sa_cons se_var sa_nil))))) ss_next)
 (ss_ret se_var))))))⟩)
abbrev N__law_names : List Str := ["_law_pool_here", "_law_count", "_law_names_here", "_law_k"]
theorem sc__law_names : FnScope N__law_names Q9.f (defScope s__law_names) := fsc
theorem dn__law_names (T : TxN mg)
  (D__law_name : DfN P w K mg base 2 "_law_name" Q9.e F__law_name)
  {f : Addr} {fd : FuncData} (F : Fun K "_law_names" "_law_names" s__law_names f fd) : FnOk P w K mg base (L2N.CX P w) 3 f fd Q9.f (conc K 2 (F__law_names)) :=
 fun_den (k := 2) (ps := Q9.f) F sc__law_names (fun cdv A outer s H E hr => ⟨_,
 (pss_cons_al (ps_asg (pe_lst pa_nil_al) (pgn (i := 2) sc__law_names.nd))
 (pss_cons_al (ps_for (passes_of rfl) rfl (pi_range1 (by rfl) T.b_range (pa_cons_al (pv 1) pa_nil_al)) (pgn (i := 3) sc__law_names.nd)
 (pss_one (ps_expr (k_bm (K := K) rfl core_PySem_F_plainAttrs_list_al core_PySem_F_slot_list_append_al core_PySem_F_type_list_append_al mt_append (pv 2) (pa_cons_al (pe_callS (E := WE (WO E)) D__law_name.G (rmo hr) rfl D__law_name.m D__law_name.kp D__law_name.b (psR rfl rfl rfl rfl) (by exact (pa_cons_al (pv 0) (pa_cons_al (pv 2) pa_nil_al)))) pa_nil_al)))))
 (pss_one (ps_ret (pv 2))))),
 (ss_seq (ss_asg (se_th (sl_lst sa_nil)) sg_name)
 (ss_seq (ss_for (si_rng1 (sa_cons se_var sa_nil)) sg_name
 (ss_drop (se_bm se_var (sa_cons (se_call (sa_cons se_var (sa_cons se_var sa_nil))) sa_nil) sm_append)))
 (ss_ret se_var)))⟩)
abbrev N__law_pick : List Str := Q9.d
theorem sc__law_pick : FnScope N__law_pick Q9.d (defScope s__law_pick) := fsc
theorem dn__law_pick (T : TxN mg)
  (D__law_draw : DfN P w K mg base 1 "_law_draw" Q9.b F__law_draw)
  {f : Addr} {fd : FuncData} (F : Fun K "_law_pick" "_law_pick" s__law_pick f fd) : FnOk P w K mg base (L2N.CX P w) 2 f fd Q9.d (conc K 2 (F__law_pick)) :=
 fun_den (k := 1) (ps := Q9.d) F sc__law_pick (fun cdv A outer s H E hr => ⟨_,
 (pss_one (ps_ret (pqi rfl hr (pv 1) (pe_callS (E := WE (WO E)) D__law_draw.G (rmo hr) rfl D__law_draw.m D__law_draw.kp D__law_draw.b (psR rfl rfl rfl rfl) (by exact (pa_cons_al (pv 0) (pa_cons_al (pe_callB (k_len rfl) (by rfl) T.b_len (by decide +kernel) (pa_cons_al (pv 1) pa_nil_al)) pa_nil_al))))))),
 (ss_ret (se_op so_ix se_var (se_call (sa_cons se_var (sa_cons (se_cb sc_len (sa_cons se_var sa_nil)) sa_nil)))))⟩)
abbrev N__law_any_deed : List Str := ["_law_pool_here", "_law_names_here", "_law_most", "_law_kind"]
theorem sc__law_any_deed : FnScope N__law_any_deed Q9.c (defScope s__law_any_deed) := fsc
theorem dn__law_any_deed (T : TxN mg)
  (D__law_draw : DfN P w K mg base 1 "_law_draw" Q9.b F__law_draw)
  (D__law_pick : DfN P w K mg base 2 "_law_pick" Q9.d F__law_pick)
  {f : Addr} {fd : FuncData} (F : Fun K "_law_any_deed" "_law_any_deed" s__law_any_deed f fd) : FnOk P w K mg base (L2N.CX P w) 3 f fd Q9.c (conc K 3 (F__law_any_deed)) :=
 fun_den (k := 2) (ps := Q9.c) F sc__law_any_deed (fun cdv A outer s H E hr => ⟨_,
 (pss_cons_al (ps_asg (pe_callS (E := WE (WO E)) D__law_draw.G (rmo hr) rfl D__law_draw.m D__law_draw.kp D__law_draw.b (psR rfl rfl rfl rfl) (by exact (pa_cons_al (pv 0) (pa_cons_al pe_int pa_nil_al)))) (pgn (i := 3) sc__law_any_deed.nd))
 (pss_cons_al (ps_if (pt_cmpR (k_eq rfl (u65 hr)) (pv 3) pe_int (nomark _)) (pss_one (ps_ret (pe_tup (pa_cons_al pe_str (pa_cons_al (pe_callS (E := WE (WO E)) D__law_pick.G (rmo hr) rfl D__law_pick.m D__law_pick.kp D__law_pick.b (psR rfl rfl rfl rfl) (by exact (pa_cons_al (pv 0) (pa_cons_al (pv 1) pa_nil_al)))) (pa_cons_al (pe_callS (E := WE (WO E)) D__law_draw.G (rmo hr) rfl D__law_draw.m D__law_draw.kp D__law_draw.b (psR rfl rfl rfl rfl) (by exact (pa_cons_al (pv 0) (pa_cons_al (pv 2) pa_nil_al)))) pa_nil_al)))))) pss_nil)
 (pss_cons_al (ps_if (pt_cmpR (k_eq rfl (u65 hr)) (pv 3) pe_int (nomark _)) (pss_one (ps_ret (pe_tup (pa_cons_al pe_str (pa_cons_al (pe_callS (E := WE (WO E)) D__law_pick.G (rmo hr) rfl D__law_pick.m D__law_pick.kp D__law_pick.b (psR rfl rfl rfl rfl) (by exact (pa_cons_al (pv 0) (pa_cons_al (pv 1) pa_nil_al)))) pa_nil_al))))) pss_nil)
 (pss_cons_al (ps_if (pt_cmpR (k_eq rfl (u65 hr)) (pv 3) pe_int (nomark _)) (pss_one (ps_ret (pe_tup (pa_cons_al pe_str (pa_cons_al (pe_callS (E := WE (WO E)) D__law_pick.G (rmo hr) rfl D__law_pick.m D__law_pick.kp D__law_pick.b (psR rfl rfl rfl rfl) (by exact (pa_cons_al (pv 0) (pa_cons_al (pv 1) pa_nil_al)))) (pa_cons_al (pe_callS (E := WE (WO E)) D__law_pick.G (rmo hr) rfl D__law_pick.m D__law_pick.kp D__law_pick.b (psR rfl rfl rfl rfl) (by exact (pa_cons_al (pv 0) (pa_cons_al (pv 1) pa_nil_al)))) pa_nil_al)))))) pss_nil)
 (pss_one (ps_ret (pe_tup (pa_cons_al pe_str pa_nil_al)))))))),
 (ss_seq (ss_asg (se_call (sa_cons se_var (sa_cons se_int sa_nil))) sg_name)
 (ss_seq (ss_if (st_test (se_op so_eq se_var se_int)) (ss_ret (se_tup (sa_cons se_str (sa_cons (se_call (sa_cons se_var (sa_cons se_var sa_nil))) (sa_cons (se_call (sa_cons se_var (sa_cons se_var sa_nil))) sa_nil))))) ss_next)
 (ss_seq (ss_if (st_test (se_op so_eq se_var se_int)) (ss_ret (se_tup (sa_cons se_str (sa_cons (se_call (sa_cons se_var (sa_cons se_var sa_nil))) sa_nil)))) ss_next)
 (ss_seq (ss_if (st_test (se_op so_eq se_var se_int)) (ss_ret (se_tup (sa_cons se_str (sa_cons (se_call (sa_cons se_var (sa_cons se_var sa_nil))) (sa_cons (se_call (sa_cons se_var (sa_cons se_var sa_nil))) sa_nil))))) ss_next)
 (ss_ret (se_tup (sa_cons se_str sa_nil)))))))⟩)
abbrev N__law_line : List Str := ["_law_deed", "_law_part"]
theorem sc__law_line : FnScope N__law_line Q9.m (defScope s__law_line) := fsc
theorem dn__law_line (T : TxN mg)
  {f : Addr} {fd : FuncData} (F : Fun K "_law_line" "_law_line" s__law_line f fd) : FnOk P w K mg base (L2N.CX P w) 1 f fd Q9.m (conc K 1 (F__law_line)) :=
 fun_den (k := 0) (ps := Q9.m) F sc__law_line (fun cdv A outer s H E hr => ⟨_,
 (pss_one (ps_ret (k_bm (K := K) rfl PySem.F.plainAttrs_str PySem.F.slot_str_join PySem.F.type_str_join mt_joinR pe_str (pa_cons_al (pe_lc (own := [("_law_part", 1)]) (g := (gName 1)) (tt := tYes) rfl sc__law_line.nd (k_each rfl (pv 0)) (blkOk_by (own := [("_law_part", 1)]) (N := N__law_line) (sc := defScope s__law_line) (by decide +kernel)) (fun _ _ _ _ _ => (pgn (i := 1) sc__law_line.nd)) (fun _ _ _ _ _ => pts_nil) (fun _ _ _ _ _ => (pe_callTy call_strA (by rfl) T.b_str (by decide +kernel) (pa_cons_al (pv 1) pa_nil_al)))) pa_nil_al)))),
 (ss_ret (se_bm se_str (sa_cons (se_fz (sl_lc (vs := [1]) (si_any se_var) sg_name gw_name gm_name st_yes (se_cb sc_strA (sa_cons se_var sa_nil)))) sa_nil) sm_join))⟩)
abbrev N_write_deed : List Str := ["deed", "part"]
theorem sc_write_deed : FnScope N_write_deed ["deed"] (defScope s_write_deed) := fsc
theorem dn_write_deed (T : TxN mg)
  {f : Addr} {fd : FuncData} (F : Fun K "write_deed" "write_deed" s_write_deed f fd) : FnOk P w K mg base (L2N.CX P w) 1 f fd ["deed"] (conc K 1 (F_write_deed)) :=
 fun_den (k := 0) (ps := ["deed"]) F sc_write_deed (fun cdv A outer s H E hr => ⟨_,
 (pss_one (ps_ret (k_bm (K := K) rfl PySem.F.plainAttrs_str PySem.F.slot_str_join PySem.F.type_str_join mt_joinR pe_str (pa_cons_al (pe_lc (own := [("part", 1)]) (g := (gName 1)) (tt := tYes) rfl sc_write_deed.nd (k_each rfl (pv 0)) (blkOk_by (own := [("part", 1)]) (N := N_write_deed) (sc := defScope s_write_deed) (by decide +kernel)) (fun _ _ _ _ _ => (pgn (i := 1) sc_write_deed.nd)) (fun _ _ _ _ _ => pts_nil) (fun _ _ _ _ _ => (pe_callTy call_strA (by rfl) T.b_str (by decide +kernel) (pa_cons_al (pv 1) pa_nil_al)))) pa_nil_al)))),
 (ss_ret (se_bm se_str (sa_cons (se_fz (sl_lc (vs := [1]) (si_any se_var) sg_name gw_name gm_name st_yes (se_cb sc_strA (sa_cons se_var sa_nil)))) sa_nil) sm_join))⟩)
abbrev N_write_deeds : List Str := ["deeds", "deed"]
theorem sc_write_deeds : FnScope N_write_deeds ["deeds"] (defScope s_write_deeds) := fsc
theorem dn_write_deeds (T : TxN mg)
  (D_write_deed : DfN P w K mg base 1 "write_deed" ["deed"] F_write_deed)
  {f : Addr} {fd : FuncData} (F : Fun K "write_deeds" "write_deeds" s_write_deeds f fd) : FnOk P w K mg base (L2N.CX P w) 2 f fd ["deeds"] (conc K 1 (F_write_deeds)) :=
 fun_den (k := 1) (ps := ["deeds"]) F sc_write_deeds (fun cdv A outer s H E hr => ⟨_,
 (pss_one (ps_ret (k_bm (K := K) rfl PySem.F.plainAttrs_str PySem.F.slot_str_join PySem.F.type_str_join mt_joinR pe_str (pa_cons_al (pe_lc (own := [("deed", 1)]) (g := (gName 1)) (tt := tYes) rfl sc_write_deeds.nd (k_each rfl (pv 0)) (blkOk_by (own := [("deed", 1)]) (N := N_write_deeds) (sc := defScope s_write_deeds) (by decide +kernel)) (fun _ _ _ _ _ => (pgn (i := 1) sc_write_deeds.nd)) (fun _ _ _ _ _ => pts_nil) (fun _ _ _ _ _ => (pe_callS (E := WE W0) D_write_deed.G (rmo hr) rfl D_write_deed.m D_write_deed.kp D_write_deed.b (fun σ => pass_no σ) (by exact (pa_cons_al (pv 1) pa_nil_al))))) pa_nil_al)))),
 (ss_ret (se_bm se_str (sa_cons (se_fz (sl_lc (vs := [1]) (si_any se_var) sg_name gw_name gm_name st_yes (se_call (sa_cons se_var sa_nil)))) sa_nil) sm_join))⟩)
abbrev N__law_same : List Str := ["_law_a", "_law_b", "_law_x", "_law_y"]
theorem sc__law_same : FnScope N__law_same Q9.a (defScope s__law_same) := fsc
theorem dn__law_same {Fr : FD} (T : TxN mg)
  {j : Nat} (hj : 1 <= j)
  (D__law_same : DfN P w K mg base j "_law_same" Q9.a Fr)
  {f : Addr} {fd : FuncData} (F : Fun K "_law_same" "_law_same" s__law_same f fd) : FnOk P w K mg base (L2N.CX P w) (j + 1) f fd Q9.a (conc K 2 (F__law_same Fr)) :=
 fun_den (k := j) (ps := Q9.a) F sc__law_same (fun cdv A outer s H E hr => ⟨_,
 (pss_cons_al (ps_if (pt_val (pe_callB (k_isi rfl) (by rfl) T.b_isinstance (by decide +kernel) (pa_cons_al (pv 1) (pa_cons_al (pe_bltn (v := .ty "tuple") (by rfl) T.b_tuple (by decide +kernel) rfl) pa_nil_al)))) (pss_cons_al (ps_if (PW.pt (pw_or (pt_not (pt_val (pe_callB (k_isi rfl) (by rfl) T.b_isinstance (by decide +kernel) (pa_cons_al (pv 0) (pa_cons_al (pe_bltn (v := .ty "tuple") (by rfl) T.b_tuple (by decide +kernel) rfl) pa_nil_al))))) (pw_or1 (pt_cmpR (k_ne rfl (u65 hr)) (pe_callB (k_len rfl) (by rfl) T.b_len (by decide +kernel) (pa_cons_al (pv 0) pa_nil_al)) (pe_callB (k_len rfl) (by rfl) T.b_len (by decide +kernel) (pa_cons_al (pv 1) pa_nil_al)) (nomark _))))) (pss_one (ps_ret pe_bl)) pss_nil)
 (pss_one (ps_ret (pe_callB (k_all rfl rfl) (by rfl) T.b_all (by decide +kernel) (pa_cons_al (pe_lc (own := [("_law_x", 2), ("_law_y", 3)]) (g := (gTup K 2 (gCons (gName 2) (gCons (gName 3) gNil)))) (tt := tYes) rfl sc__law_same.nd (k_zip rfl (by rfl) T.b_zip (pa_cons_al (pv 0) (pa_cons_al (pv 1) pa_nil_al))) (blkOk_by (own := [("_law_x", 2), ("_law_y", 3)]) (N := N__law_same) (sc := defScope s__law_same) (by decide +kernel)) (fun _ _ _ _ _ => (k_gtup rfl rfl (pgs_cons (pgn (i := 2) sc__law_same.nd) (pgs_cons (pgn (i := 3) sc__law_same.nd) pgs_nil)))) (fun _ _ _ _ _ => pts_nil) (fun _ _ _ _ _ => (pe_callS (E := WE W0) D__law_same.G (rmo hr) rfl D__law_same.m D__law_same.kp D__law_same.b (fun σ => pass_no σ) (by exact (pa_cons_al (pv 2) (pa_cons_al (pv 3) pa_nil_al)))))) pa_nil_al))))) pss_nil)
 (pss_cons_al (ps_if (pt_val (pe_callB (k_isi rfl) (by rfl) T.b_isinstance (by decide +kernel) (pa_cons_al (pv 1) (pa_cons_al (pe_bltn (v := .ty "list") (by rfl) T.b_list (by decide +kernel) rfl) pa_nil_al)))) (pss_cons_al (ps_if (PW.pt (pw_or (pt_not (pt_val (pe_callB (k_isi rfl) (by rfl) T.b_isinstance (by decide +kernel) (pa_cons_al (pv 0) (pa_cons_al (pe_bltn (v := .ty "list") (by rfl) T.b_list (by decide +kernel) rfl) pa_nil_al))))) (pw_or1 (pt_cmpR (k_ne rfl (u65 hr)) (pe_callB (k_len rfl) (by rfl) T.b_len (by decide +kernel) (pa_cons_al (pv 0) pa_nil_al)) (pe_callB (k_len rfl) (by rfl) T.b_len (by decide +kernel) (pa_cons_al (pv 1) pa_nil_al)) (nomark _))))) (pss_one (ps_ret pe_bl)) pss_nil)
 (pss_one (ps_ret (pe_callB (k_all rfl rfl) (by rfl) T.b_all (by decide +kernel) (pa_cons_al (pe_lc (own := [("_law_x", 2), ("_law_y", 3)]) (g := (gTup K 2 (gCons (gName 2) (gCons (gName 3) gNil)))) (tt := tYes) rfl sc__law_same.nd (k_zip rfl (by rfl) T.b_zip (pa_cons_al (pv 0) (pa_cons_al (pv 1) pa_nil_al))) (blkOk_by (own := [("_law_x", 2), ("_law_y", 3)]) (N := N__law_same) (sc := defScope s__law_same) (by decide +kernel)) (fun _ _ _ _ _ => (k_gtup rfl rfl (pgs_cons (pgn (i := 2) sc__law_same.nd) (pgs_cons (pgn (i := 3) sc__law_same.nd) pgs_nil)))) (fun _ _ _ _ _ => pts_nil) (fun _ _ _ _ _ => (pe_callS (E := WE W0) D__law_same.G (rmo hr) rfl D__law_same.m D__law_same.kp D__law_same.b (fun σ => pass_no σ) (by exact (pa_cons_al (pv 2) (pa_cons_al (pv 3) pa_nil_al)))))) pa_nil_al))))) pss_nil)
 (pss_cons_al (ps_if (pt_cmpR op_isN (pv 1) pe_non (nomark _)) (pss_one (ps_ret (pe_cmpR op_isN (pv 0) pe_non (nomark _)))) pss_nil)
 (pss_cons_al (ps_if (pt_val (pe_callB (k_isi rfl) (by rfl) T.b_isinstance (by decide +kernel) (pa_cons_al (pv 1) (pa_cons_al (pe_bltn (v := .ty "bool") (by rfl) T.b_bool (by decide +kernel) rfl) pa_nil_al)))) (pss_one (ps_ret (pe_and (pe_callB (k_isi rfl) (by rfl) T.b_isinstance (by decide +kernel) (pa_cons_al (pv 0) (pa_cons_al (pe_bltn (v := .ty "bool") (by rfl) T.b_bool (by decide +kernel) rfl) pa_nil_al))) (pe_one (pe_cmpR (k_eq rfl (u65 hr)) (pv 0) (pv 1) (nomark _)))))) pss_nil)
 (pss_cons_al (ps_if (pt_val (pe_callB (k_isi rfl) (by rfl) T.b_isinstance (by decide +kernel) (pa_cons_al (pv 1) (pa_cons_al (pe_bltn (v := .ty "int") (by rfl) T.b_int (by decide +kernel) rfl) pa_nil_al)))) (pss_one (ps_ret (pe_and (pe_callB (k_isi rfl) (by rfl) T.b_isinstance (by decide +kernel) (pa_cons_al (pv 0) (pa_cons_al (pe_bltn (v := .ty "int") (by rfl) T.b_int (by decide +kernel) rfl) pa_nil_al))) (pe_and (pe_not (pe_callB (k_isi rfl) (by rfl) T.b_isinstance (by decide +kernel) (pa_cons_al (pv 0) (pa_cons_al (pe_bltn (v := .ty "bool") (by rfl) T.b_bool (by decide +kernel) rfl) pa_nil_al)))) (pe_one (pe_cmpR (k_eq rfl (u65 hr)) (pv 0) (pv 1) (nomark _))))))) pss_nil)
 (pss_one (ps_ret (pe_and (pe_callB (k_isi rfl) (by rfl) T.b_isinstance (by decide +kernel) (pa_cons_al (pv 0) (pa_cons_al (pe_bltn (v := .ty "str") (by rfl) T.b_str (by decide +kernel) rfl) pa_nil_al))) (pe_one (pe_cmpR (k_eq rfl (u65 hr)) (pv 0) (pv 1) (nomark _))))))))))),
 (ss_seq (ss_if (st_B (se_isi bt_tuple se_var)) (ss_seq (ss_if (st_or (st_not (st_B (se_isi bt_tuple se_var))) (st_test (se_op so_eq (se_cb sc_len (sa_cons se_var sa_nil)) (se_cb sc_len (sa_cons se_var sa_nil))))) (ss_ret se_bl) ss_next)
 (ss_ret (se_cb sc_all (sa_cons (se_fz (sl_lc (vs := [2, 3]) (si_zip (sa_cons se_var (sa_cons se_var sa_nil))) (sg_tup (sgs_cons sg_name (sgs_cons sg_name sgs_nil))) (gw_tup (gws_cons gw_name gm_name (gws_cons gw_name gm_name gws_nil gms_nil) (gms_cons gm_name gms_nil))) (gm_tup (gms_cons gm_name (gms_cons gm_name gms_nil))) st_yes (se_call (sa_cons se_var (sa_cons se_var sa_nil))))) sa_nil)))) ss_next)
 (ss_seq (ss_if (st_B (se_isi bt_list se_var)) (ss_seq (ss_if (st_or (st_not (st_B (se_isi bt_list se_var))) (st_test (se_op so_eq (se_cb sc_len (sa_cons se_var sa_nil)) (se_cb sc_len (sa_cons se_var sa_nil))))) (ss_ret se_bl) ss_next)
 (ss_ret (se_cb sc_all (sa_cons (se_fz (sl_lc (vs := [2, 3]) (si_zip (sa_cons se_var (sa_cons se_var sa_nil))) (sg_tup (sgs_cons sg_name (sgs_cons sg_name sgs_nil))) (gw_tup (gws_cons gw_name gm_name (gws_cons gw_name gm_name gws_nil gms_nil) (gms_cons gm_name gms_nil))) (gm_tup (gms_cons gm_name (gms_cons gm_name gms_nil))) st_yes (se_call (sa_cons se_var (sa_cons se_var sa_nil))))) sa_nil)))) ss_next)
 (ss_seq (ss_if (st_test (se_op so_isN se_var se_non)) (ss_ret (se_op so_isN se_var se_non)) ss_next)
 (ss_seq (ss_if (st_B (se_isi bt_bool se_var)) (ss_ret (se_andV (se_isi bt_bool se_var) (se_op so_eq se_var se_var))) ss_next)
 (ss_seq (ss_if (st_B (se_isi bt_int se_var)) (ss_ret (se_andV (se_isi bt_int se_var) (se_andV (se_notV (se_isi bt_bool se_var)) (se_op so_eq se_var se_var)))) ss_next)
 (ss_ret (se_andV (se_isi bt_str se_var) (se_op so_eq se_var se_var))))))))⟩)
abbrev N_is_name : List Str := ["value", "letter"]
theorem sc_is_name : FnScope N_is_name ["value"] (defScope s_is_name) := fsc
theorem dn_is_name (T : TxN mg) {tok_LETTERS : Tok}
  (g_LETTERS : mg "LETTERS" = some (.str "abcdefghijklmnopqrstuvwxyz" tok_LETTERS))
  {f : Addr} {fd : FuncData} (F : Fun K "is_name" "is_name" s_is_name f fd) : FnOk P w K mg base (L2N.CX P w) 1 f fd ["value"] (conc K 1 (F_is_name)) :=
 fun_den (k := 0) (ps := ["value"]) F sc_is_name (fun cdv A outer s H E hr => ⟨_,
 (pss_cons_al (ps_if (PW.pt (pw_or (pt_not (pt_val (pe_callB (k_isi rfl) (by rfl) T.b_isinstance (by decide +kernel) (pa_cons_al (pv 0) (pa_cons_al (pe_bltn (v := .ty "str") (by rfl) T.b_str (by decide +kernel) rfl) pa_nil_al))))) (pw_or1 (pt_not (pt_chain op_le op_le pe_int (pe_callB (k_len rfl) (by rfl) T.b_len (by decide +kernel) (pa_cons_al (pv 0) pa_nil_al)) pe_int))))) (pss_one (ps_ret pe_bl)) pss_nil)
 (pss_one (ps_ret (pe_callB (k_all rfl rfl) (by rfl) T.b_all (by decide +kernel) (pa_cons_al (pe_lc (own := [("letter", 1)]) (g := (gName 1)) (tt := tYes) rfl sc_is_name.nd (k_each rfl (pv 0)) (blkOk_by (own := [("letter", 1)]) (N := N_is_name) (sc := defScope s_is_name) (by decide +kernel)) (fun _ _ _ _ _ => (pgn (i := 1) sc_is_name.nd)) (fun _ _ _ _ _ => pts_nil) (fun _ _ _ _ _ => (pe_cmpR (k_in rfl (u65 hr)) (pv 1) (pe_glob (v := .str "abcdefghijklmnopqrstuvwxyz") (by rfl) g_LETTERS ⟨_, rfl⟩) (by rfl)))) pa_nil_al))))),
 (ss_seq (ss_if (st_or (st_not (st_B (se_isi bt_str se_var))) (st_not (st_test (se_chain so_le so_le se_int (se_cb sc_len (sa_cons se_var sa_nil)) se_int)))) (ss_ret se_bl) ss_next)
 (ss_ret (se_cb sc_all (sa_cons (se_fz (sl_lc (vs := [1]) (si_any se_var) sg_name gw_name gm_name st_yes (se_op so_in se_var se_str))) sa_nil))))⟩)
abbrev N_is_digit : List Str := ["part"]
theorem sc_is_digit : FnScope N_is_digit ["part"] (defScope s_is_digit) := fsc
theorem dn_is_digit (T : TxN mg) {tok_DIGITS : Tok}
  (g_DIGITS : mg "DIGITS" = some (.str "0123456789" tok_DIGITS))
  {f : Addr} {fd : FuncData} (F : Fun K "is_digit" "is_digit" s_is_digit f fd) : FnOk P w K mg base (L2N.CX P w) 1 f fd ["part"] (conc K 1 (F_is_digit)) :=
 fun_den (k := 0) (ps := ["part"]) F sc_is_digit (fun cdv A outer s H E hr => ⟨_,
 (pss_one (ps_ret (pe_and (pe_cmpR (k_eq rfl (u65 hr)) (pe_callB (k_len rfl) (by rfl) T.b_len (by decide +kernel) (pa_cons_al (pv 0) pa_nil_al)) pe_int (nomark _)) (pe_one (pe_cmpR (k_in rfl (u65 hr)) (pv 0) (pe_glob (v := .str "0123456789") (by rfl) g_DIGITS ⟨_, rfl⟩) (by rfl)))))),
 (ss_ret (se_andV (se_op so_eq (se_cb sc_len (sa_cons se_var sa_nil)) se_int) (se_op so_in se_var se_str)))⟩)
abbrev N_read_deed : List Str := ["line", "word", "rest", "kinds", "kind", "part"]
theorem sc_read_deed : FnScope N_read_deed ["line"] (defScope s_read_deed) := fsc
theorem dn_read_deed (T : TxN mg)
  (GD_DEEDS : GlD K w mg "DEEDS" gd_DEEDS)
  (D_is_name : DfN P w K mg base 1 "is_name" ["value"] F_is_name)
  (D_is_digit : DfN P w K mg base 1 "is_digit" ["part"] F_is_digit)
  {f : Addr} {fd : FuncData} (F : Fun K "read_deed" "read_deed" s_read_deed f fd) : FnOk P w K mg base (L2N.CX P w) 2 f fd ["line"] (conc K 1 (F_read_deed)) :=
 fun_den (k := 1) (ps := ["line"]) F sc_read_deed (fun cdv A outer s H E hr => ⟨_,
 (pss_cons_al (ps_asg (k_bm (K := K) rfl PySem.F.plainAttrs_str PySem.F.slot_str_split PySem.F.type_str_split mt_splitR (pv 0) (pa_cons_al pe_str pa_nil_al)) (k_gfst rfl rfl (pgs_cons (pgn (i := 1) sc_read_deed.nd) (pgs_rest (pgs_cons (pgn (i := 2) sc_read_deed.nd) pgs_nil)))))
 (pss_cons_al (ps_asg (k_kget rfl rfl GD_DEEDS.D (pe_glob (v := .ref GD_DEEDS.a) (by rfl) GD_DEEDS.m rfl) (pv 1) ⟨rfl, rfl, rfl, rfl⟩) (pgn (i := 3) sc_read_deed.nd))
 (pss_cons_al (ps_if (PW.pt (pw_or (pt_cmpR op_isN (pv 3) pe_non (nomark _)) (pw_or1 (pt_cmpR (k_ne rfl (u65 hr)) (pe_callB (k_len rfl) (by rfl) T.b_len (by decide +kernel) (pa_cons_al (pv 3) pa_nil_al)) (pe_callB (k_len rfl) (by rfl) T.b_len (by decide +kernel) (pa_cons_al (pv 2) pa_nil_al)) (nomark _))))) (pss_one (ps_ret pe_non)) pss_nil)
 (pss_cons_al (ps_for (passes_of rfl) rfl (k_zip rfl (by rfl) T.b_zip (pa_cons_al (pv 3) (pa_cons_al (pv 2) pa_nil_al))) (k_gtup rfl rfl (pgs_cons (pgn (i := 4) sc_read_deed.nd) (pgs_cons (pgn (i := 5) sc_read_deed.nd) pgs_nil)))
 (pss_one (ps_if (pt_not (pt_ifT (pt_cmpR (k_eq rfl (u65 hr)) (pv 4) pe_str (nomark _)) (pt_val (pe_callS (E := WE (WO E)) D_is_name.G (rmo hr) rfl D_is_name.m D_is_name.kp D_is_name.b (psR rfl rfl rfl rfl) (by exact (pa_cons_al (pv 5) pa_nil_al)))) (pt_val (pe_callS (E := WE (WO E)) D_is_digit.G (rmo hr) rfl D_is_digit.m D_is_digit.kp D_is_digit.b (psR rfl rfl rfl rfl) (by exact (pa_cons_al (pv 5) pa_nil_al)))))) (pss_one (ps_ret pe_non)) pss_nil)))
 (pss_one (ps_ret (pe_op (k_add rfl) (pe_tup (pa_cons_al (pv 1) pa_nil_al)) (pe_callTy (k_tup rfl) (by rfl) T.b_tuple (by decide +kernel) (pa_cons_al (pe_lc (own := [("kind", 4), ("part", 5)]) (g := (gTup K 2 (gCons (gName 4) (gCons (gName 5) gNil)))) (tt := tYes) rfl sc_read_deed.nd (k_zip rfl (by rfl) T.b_zip (pa_cons_al (pv 3) (pa_cons_al (pv 2) pa_nil_al))) (blkOk_by (own := [("kind", 4), ("part", 5)]) (N := N_read_deed) (sc := defScope s_read_deed) (by decide +kernel)) (fun _ _ _ _ _ => (k_gtup rfl rfl (pgs_cons (pgn (i := 4) sc_read_deed.nd) (pgs_cons (pgn (i := 5) sc_read_deed.nd) pgs_nil)))) (fun _ _ _ _ _ => pts_nil) (fun _ _ _ _ _ => (pe_ifExp (pt_cmpR (k_eq rfl (u65 hr)) (pv 4) pe_str (nomark _)) (pv 5) (pe_callTy call_intS (by rfl) T.b_int (by decide +kernel) (pa_cons_al (pv 5) pa_nil_al))))) pa_nil_al))))))))),
 (ss_seq (ss_asg (se_fz (sl_split se_var (sa_cons se_str sa_nil))) (sg_fst (sgs_cons sg_name (sgs_cons sg_name sgs_nil))))
 (ss_seq (ss_asg (se_kget GD_DEEDS.T se_var) sg_name)
 (ss_seq (ss_if (st_or (st_test (se_op so_isN se_var se_non)) (st_test (se_op so_eq (se_cb sc_len (sa_cons se_var sa_nil)) (se_cb sc_len (sa_cons se_var sa_nil))))) (ss_ret se_non) ss_next)
 (ss_seq (ss_for (si_zip (sa_cons se_var (sa_cons se_var sa_nil))) (sg_tup (sgs_cons sg_name (sgs_cons sg_name sgs_nil)))
 (ss_if (st_not (st_ifT (st_test (se_op so_eq se_var se_str)) (st_B (se_call (sa_cons se_var sa_nil))) (st_B (se_call (sa_cons se_var sa_nil))))) (ss_ret se_non) ss_next))
 (ss_ret (se_op so_add (se_tup (sa_cons se_var sa_nil)) (se_cb sc_tupL (sa_cons (se_fz (sl_lc (vs := [4, 5]) (si_zip (sa_cons se_var (sa_cons se_var sa_nil))) (sg_tup (sgs_cons sg_name (sgs_cons sg_name sgs_nil))) (gw_tup (gws_cons gw_name gm_name (gws_cons gw_name gm_name gws_nil gms_nil) (gms_cons gm_name gms_nil))) (gm_tup (gms_cons gm_name (gms_cons gm_name gms_nil))) st_yes (se_if (st_test (se_op so_eq se_var se_str)) se_var (se_cb sc_intS (sa_cons se_var sa_nil))))) sa_nil))))))))⟩)
abbrev N_read_deeds : List Str := ["text", "deeds", "index", "line", "deed"]
theorem sc_read_deeds : FnScope N_read_deeds ["text"] (defScope s_read_deeds) := fsc
theorem dn_read_deeds (T : TxN mg)
  (D_read_deed : DfN P w K mg base 2 "read_deed" ["line"] F_read_deed)
  (X_InvalidText : XcN P w K mg base 1 "InvalidText" "line" Q9.l smI idA)
  {f : Addr} {fd : FuncData} (F : Fun K "read_deeds" "read_deeds" s_read_deeds f fd) : FnOk P w K mg base (L2N.CX P w) 3 f fd ["text"] (conc K 1 (F_read_deeds)) :=
 fun_den (k := 2) (ps := ["text"]) F sc_read_deeds (fun cdv A outer s H E hr => ⟨_,
 (pss_cons_al (ps_if (pt_cmpR (k_eq rfl (u65 hr)) (pv 0) pe_str (nomark _)) (pss_one (ps_ret (pe_tupF pa_nil_al))) pss_nil)
 (pss_cons_al (ps_asg (pe_lst pa_nil_al) (pgn (i := 1) sc_read_deeds.nd))
 (pss_cons_al (ps_for (passes_of rfl) rfl (k_en rfl (by rfl) T.b_enumerate (pa_cons_al (k_bm (K := K) rfl PySem.F.plainAttrs_str PySem.F.slot_str_split PySem.F.type_str_split mt_splitR (pv 0) (pa_cons_al pe_str pa_nil_al)) pa_nil_al)) (k_gtup rfl rfl (pgs_cons (pgn (i := 2) sc_read_deeds.nd) (pgs_cons (pgn (i := 3) sc_read_deeds.nd) pgs_nil)))
 (pss_cons_al (ps_asg (pe_callS (E := WE (WO E)) D_read_deed.G (rmo hr) rfl D_read_deed.m D_read_deed.kp D_read_deed.b (psR rfl rfl rfl rfl) (by exact (pa_cons_al (pv 3) pa_nil_al))) (pgn (i := 4) sc_read_deeds.nd))
 (pss_cons_al (ps_if (pt_cmpR op_isN (pv 4) pe_non (nomark _)) (pss_one (L2N.ps_raise rfl (L2N.takes_of rfl rfl rfl rfl) (pmk_oexN X_InvalidText.T X_InvalidText.iC X_InvalidText.tI X_InvalidText.G (rmo hr) X_InvalidText.b passN (by rfl) X_InvalidText.gC (by exact (pa_cons_al (pe_op (k_add rfl) (pv 2) pe_int) pa_nil_al))))) pss_nil)
 (pss_one (ps_expr (k_bm (K := K) rfl core_PySem_F_plainAttrs_list_al core_PySem_F_slot_list_append_al core_PySem_F_type_list_append_al mt_append (pv 1) (pa_cons_al (pv 4) pa_nil_al)))))))
 (pss_one (ps_ret (pe_callTy (k_tup rfl) (by rfl) T.b_tuple (by decide +kernel) (pa_cons_al (pv 1) pa_nil_al))))))),
 (ss_seq (ss_if (st_test (se_op so_eq se_var se_str)) (ss_ret (se_tupF sa_nil)) ss_next)
 (ss_seq (ss_asg (se_th (sl_lst sa_nil)) sg_name)
 (ss_seq (ss_for (si_en (sa_cons (se_fz (sl_split se_var (sa_cons se_str sa_nil))) sa_nil)) (sg_tup (sgs_cons sg_name (sgs_cons sg_name sgs_nil)))
 (ss_seq (ss_asg (se_call (sa_cons se_var sa_nil)) sg_name)
 (ss_seq (ss_if (st_test (se_op so_isN se_var se_non)) (ss_raise X_InvalidText (sa_cons (se_op so_add se_var se_int) sa_nil)) ss_next)
 (ss_drop (se_bm se_var (sa_cons se_var sa_nil) sm_append)))))
 (ss_ret (se_cb sc_tupL (sa_cons se_var sa_nil))))))⟩)
abbrev N__law_read : List Str := ["_law_text", "_law_told", "e"]
theorem sc__law_read : FnScope N__law_read Q9.n (defScope s__law_read) := fsc
theorem dn__law_read (T : TxN mg)
  (g_InvalidText : mg "InvalidText" = some (.ref (He.ga K "InvalidText")))
  (em_InvalidText : PySem.W.exmOne K (.ref (He.ga K "InvalidText")) (.ref (He.ga K "InvalidText")) = some true)
  (D_read_deeds : DfN P w K mg base 3 "read_deeds" ["text"] F_read_deeds)
  (xf_InvalidText_line : XfN K "InvalidText" "line")
  {f : Addr} {fd : FuncData} (F : Fun K "_law_read" "_law_read" s__law_read f fd) : FnOk P w K mg base (L2N.CX P w) 4 f fd Q9.n (conc K 1 (F__law_read)) :=
 fun_den (k := 3) (ps := Q9.n) F sc__law_read (fun cdv A outer s H E hr => ⟨_,
 (pss_cons_al (ps_try_as (i := 2) (Wout := fun _ _ _ _ => False) rfl rfl sc__law_read.nd rfl rfl ⟨rfl, by decide, .inl g_InvalidText⟩ takes0 (fun W pn xe tk _ => (pss_one (ps_asg (pe_callS (E := WE W) D_read_deeds.G (rmo hr) rfl D_read_deeds.m D_read_deeds.kp D_read_deeds.b (fun σ => passT tk σ) (by exact (pa_cons_al (pv 0) pa_nil_al))) (pgn (i := 1) sc__law_read.nd)))) (fun a oe cls d pn hz hf => (pss_one (ps_ret (pe_tup (pa_cons_al pe_str (pa_cons_al (pe_xf xf_InvalidText_line.xf xf_InvalidText_line.nf hz hf (pv 2)) pa_nil_al)))))))
 (pss_one (ps_ret (pe_tup (pa_cons_al pe_str (pa_cons_al (pv 1) pa_nil_al)))))),
 (ss_seq (ss_tryAs em_InvalidText (fun W => (ss_asg (se_call (sa_cons se_var sa_nil)) sg_name)) (su_retX (sx_tup (sxa_cons (sx_of se_str) (sxa_cons sx_xf sxa_nil)))))
 (ss_ret (se_tup (sa_cons se_str (sa_cons se_var sa_nil)))))⟩)
abbrev N__law_wrong_line : List Str := ["_law_pool_here", "_law_deed", "_law_line_here", "_law_kind", "_law_at"]
theorem sc__law_wrong_line : FnScope N__law_wrong_line Q9.g (defScope s__law_wrong_line) := fsc
theorem dn__law_wrong_line (T : TxN mg)
  (D__law_line : DfN P w K mg base 1 "_law_line" Q9.m F__law_line)
  (D__law_draw : DfN P w K mg base 1 "_law_draw" Q9.b F__law_draw)
  (D__law_pick : DfN P w K mg base 2 "_law_pick" Q9.d F__law_pick)
  {f : Addr} {fd : FuncData} (F : Fun K "_law_wrong_line" "_law_wrong_line" s__law_wrong_line f fd) : FnOk P w K mg base (L2N.CX P w) 3 f fd Q9.g (conc K 2 (F__law_wrong_line)) :=
 fun_den (k := 2) (ps := Q9.g) F sc__law_wrong_line (fun cdv A outer s H E hr => ⟨_,
 (pss_cons_al (ps_asg (pe_callS (E := WE (WO E)) D__law_line.G (rmo hr) rfl D__law_line.m D__law_line.kp D__law_line.b (psR rfl rfl rfl rfl) (by exact (pa_cons_al (pv 1) pa_nil_al))) (pgn (i := 2) sc__law_wrong_line.nd))
 (pss_cons_al (ps_asg (pe_callS (E := WE (WO E)) D__law_draw.G (rmo hr) rfl D__law_draw.m D__law_draw.kp D__law_draw.b (psR rfl rfl rfl rfl) (by exact (pa_cons_al (pv 0) (pa_cons_al pe_int pa_nil_al)))) (pgn (i := 3) sc__law_wrong_line.nd))
 (pss_cons_al (ps_if (pt_cmpR (k_eq rfl (u65 hr)) (pv 3) pe_int (nomark _)) (pss_cons_al (ps_asg (pe_callS (E := WE (WO E)) D__law_pick.G (rmo hr) rfl D__law_pick.m D__law_pick.kp D__law_pick.b (psR rfl rfl rfl rfl) (by exact (pa_cons_al (pv 0) (pa_cons_al (pe_lst (pa_cons_al pe_int (pa_cons_al (pe_callB (k_len rfl) (by rfl) T.b_len (by decide +kernel) (pa_cons_al (pv 2) pa_nil_al)) (pa_cons_al (pe_op (k_add rfl) (k_bm (K := K) rfl PySem.F.plainAttrs_str PySem.F.slot_str_find PySem.F.type_str_find mt_findR (pv 2) (pa_cons_al pe_str pa_nil_al)) pe_int) pa_nil_al)))) pa_nil_al)))) (pgn (i := 4) sc__law_wrong_line.nd))
 (pss_one (ps_ret (pe_op (k_add rfl) (pe_op (k_add rfl) (pe_slice (k_sl rfl) (pv 2) po_none (po_some (pv 4))) pe_str) (pe_slice (k_sl rfl) (pv 2) (po_some (pv 4)) po_none))))) pss_nil)
 (pss_cons_al (ps_if (pt_cmpR (k_eq rfl (u65 hr)) (pv 3) pe_int (nomark _)) (pss_one (ps_ret (pe_op (k_add rfl) (pe_op (k_add rfl) (pv 2) pe_str) (pe_callS (E := WE (WO E)) D__law_pick.G (rmo hr) rfl D__law_pick.m D__law_pick.kp D__law_pick.b (psR rfl rfl rfl rfl) (by exact (pa_cons_al (pv 0) (pa_cons_al (pe_lst (pa_cons_al pe_str (pa_cons_al pe_str (pa_cons_al pe_str (pa_cons_al pe_str pa_nil_al))))) pa_nil_al))))))) pss_nil)
 (pss_cons_al (ps_if (pt_cmpR (k_eq rfl (u65 hr)) (pv 3) pe_int (nomark _)) (pss_one (ps_ret (pe_op (k_add rfl) (k_bm0 rfl PySem.F.plainAttrs_str PySem.F.slot_str_upper PySem.F.type_str_upper mt_upperR (pe_slice (k_sl rfl) (pv 2) po_none (po_some pe_int))) (pe_slice (k_sl rfl) (pv 2) (po_some pe_int) po_none)))) pss_nil)
 (pss_one (ps_ret (pe_callS (E := WE (WO E)) D__law_pick.G (rmo hr) rfl D__law_pick.m D__law_pick.kp D__law_pick.b (psR rfl rfl rfl rfl) (by exact (pa_cons_al (pv 0) (pa_cons_al (pe_lst (pa_cons_al pe_str (pa_cons_al pe_str (pa_cons_al pe_str (pa_cons_al pe_str (pa_cons_al pe_str (pa_cons_al pe_str (pa_cons_al pe_str (pa_cons_al pe_str (pa_cons_al pe_str (pa_cons_al pe_str (pa_cons_al pe_str (pa_cons_al pe_str (pa_cons_al pe_str (pa_cons_al pe_str (pa_cons_al pe_str (pa_cons_al pe_str (pa_cons_al pe_str (pa_cons_al pe_str pa_nil_al))))))))))))))))))) pa_nil_al))))))))))),
 (ss_seq (ss_asg (se_call (sa_cons se_var sa_nil)) sg_name)
 (ss_seq (ss_asg (se_call (sa_cons se_var (sa_cons se_int sa_nil))) sg_name)
 (ss_seq (ss_if (st_test (se_op so_eq se_var se_int)) (ss_seq (ss_asg (se_call (sa_cons se_var (sa_cons (se_lst (sa_cons se_int (sa_cons (se_cb sc_len (sa_cons se_var sa_nil)) (sa_cons (se_op so_add (se_bm se_var (sa_cons se_str sa_nil) sm_find) se_int) sa_nil)))) sa_nil))) sg_name)
 (ss_ret (se_op so_add (se_op so_add (se_sl se_var sp_none (sp_some se_var)) se_str) (se_sl se_var (sp_some se_var) sp_none)))) ss_next)
 (ss_seq (ss_if (st_test (se_op so_eq se_var se_int)) (ss_ret (se_op so_add (se_op so_add se_var se_str) (se_call (sa_cons se_var (sa_cons (se_lst (sa_cons se_str (sa_cons se_str (sa_cons se_str (sa_cons se_str sa_nil))))) sa_nil))))) ss_next)
 (ss_seq (ss_if (st_test (se_op so_eq se_var se_int)) (ss_ret (se_op so_add (se_bm0 (se_sl se_var sp_none (sp_some se_int)) sm_upper) (se_sl se_var (sp_some se_int) sp_none))) ss_next)
 (ss_ret (se_call (sa_cons se_var (sa_cons (se_lst (sa_cons se_str (sa_cons se_str (sa_cons se_str (sa_cons se_str (sa_cons se_str (sa_cons se_str (sa_cons se_str (sa_cons se_str (sa_cons se_str (sa_cons se_str (sa_cons se_str (sa_cons se_str (sa_cons se_str (sa_cons se_str (sa_cons se_str (sa_cons se_str (sa_cons se_str (sa_cons se_str sa_nil))))))))))))))))))) sa_nil)))))))))⟩)
end
section
variable {P : Program} {w : World} {K : PySem.W.Frag} {mg : Str -> Option Value} {base : Heap}
abbrev N_InvalidText___init__ : List Str := Q9.l
theorem sc_InvalidText___init__ : FnScope N_InvalidText___init__ Q9.l (defScope s_InvalidText___init__) := fsc
theorem ok_InvalidText {C S0 : Addr} (x : XC K C S0) (sup : Sup K mg "SwapError" S0) (nf : PySem.W.findIn K (.ref C) "line" = some none)
  {f : Addr} {fd : FuncData} (F : Fun K "__init__" "InvalidText.__init__" s_InvalidText___init__ f fd) :
  FnOk P w K mg base (L2N.CX P w) 1 f fd Q9.l (spXv K C "line" smI idA) := by
 refine okC_fun F sc_InvalidText___init__ (fun vs H Q E h => ?_) (fun cdv A outer s H vs Q E hr h => ?_)
 ·obtain ⟨a, c, S, y, v, rfl, _⟩ := h
  rfl
 obtain ⟨a, c, S, y, v, rfl, ha, hK, hh, k, r, hy, q⟩ := h
 obtain ⟨z, rfl, hz⟩ := smI_inv hy
 have r' := r
 cases r with
 | int =>
 refine ⟨_, (pss_cons_al (ps_expr (pe_sinit (by rfl) sup (pa_cons_al (pv 0) (pa_cons_al (pe_joined (PJ.cons pe_str (PJ.cons (pe_fmt (pv 1)) (PJ.cons pe_str PJ.nil)))) pa_nil_al))))
 (pss_one (ps_ost (pv 0) (pv 1)))), ?_⟩
 refine seq_drop ⟨_, rfl, js_ok (fun out => ⟨a, C, [.str out], rfl, (by show 1 <= 1000; decide), x.oex, ha, ?_⟩) _ _ (fun t ht2 => ?_) (by show 0 + 3000000 * 3 <= 16777216; decide)⟩
 ·simp only [core_List_mem_cons_al, core_List_not_mem_nil_al, or_false] at ht2
  rcases ht2 with rfl | rfl | rfl
  ·exact part_c (by decide +kernel)
  ·exact part_i (i := 1) rfl hz
  ·exact part_c (by decide +kernel)
 ·refine ⟨_, rfl, _, rfl, a, C, rfl, x.oex, nf, .inl ⟨ha, fun dx hdx hne => ?_⟩⟩
  exact q c H _ dx (Nxt.refl c H) k r' hdx hne
end
end Dn
namespace Dn
open PySem PySem.Spec PyProof.Rows L2 Evl Cm Dl TL
section
variable {S S1 : Store} {ρ : Dl.Env}
theorem sok_pl {z : Str} (h : Pl z) (hl : z.length <= 1048576) : sokB z = true := by
 unfold sokB
 rw [core_decide_eq_true_al hl, Bool.and_true]
 show z.cps.all (· < 0x110000) = true
 rw [Array.all_eq_true']
 intro c hc
 have := h c (by rw [<- Array.mem_toList_iff] at hc; exact hc)
 exact core_decide_eq_true_al (by omega)
theorem joinL_mem {s : List Nat} {c : Nat} : ∀ {ps : List (List Nat)}, c ∈ joinL s ps -> c ∈ s ∨ ∃ p ∈ ps, c ∈ p
 | [], h => by cases h
 | [p], h => .inr ⟨p, core_List_mem_cons_self_al, h⟩
 | p :: q :: r, h => by
  have h : c ∈ p ++ (s ++ joinL s (q :: r)) := h
  rcases core_List_mem_append_al.mp h with h | h
  ·exact .inr ⟨p, core_List_mem_cons_self_al, h⟩
  ·rcases core_List_mem_append_al.mp h with h | h
   ·exact .inl h
   ·rcases joinL_mem h with h | ⟨x, hx, h⟩
    ·exact .inl h
    ·exact .inr ⟨x, core_List_mem_cons_of_mem_al _ hx, h⟩
theorem joinL_len {s : List Nat} : ∀ {ps : List (List Nat)}, (joinL s ps).length <= (ps.map (·.length)).sum + ps.length * s.length
 | [] => core_Nat_zero_le_al _
 | [p] => by
  show p.length <= _
  simp
 | p :: q :: r => by
  have ih := joinL_len (s := s) (ps := q :: r)
  show (p ++ (s ++ joinL s (q :: r))).length <= _
  rw [core_List_length_append_al, core_List_length_append_al, core_List_map_cons_al, List.sum_cons, core_List_length_cons_al (a := p), Nat.succ_mul]
  omega
theorem join_tl (a : Str) (ys : List Str) : tl (Txt.join a ys) = joinL (tl a) (ys.map tl) := by rw [join_eq, tl_join]
theorem join_pl {a : Str} {ys : List Str} (ha : Pl a) (h : ∀ z ∈ ys, Pl z) : Pl (Txt.join a ys) := fun c hc => by
 rw [join_tl] at hc
 rcases joinL_mem hc with h1 | ⟨p, hp, h1⟩
 ·exact ha c h1
 ·obtain ⟨z, hz, rfl⟩ := core_List_mem_map_al.mp hp
  exact h z hz c h1
theorem join_len (a : Str) (ys : List Str) : (Txt.join a ys).length <= (ys.map (·.length)).sum + ys.length * a.length := by
 have := joinL_len (s := tl a) (ps := ys.map tl)
 rw [len_tl (Txt.join a ys), join_tl]
 refine core_Nat_le_trans_al this ?_
 rw [core_List_map_map_al, core_List_length_map_al, <- len_tl, show (List.length ∘ tl : Str -> Nat) = fun z : Str => z.length from funext fun z => (len_tl z).symm]
 exact core_Nat_le_refl_al _
theorem sum_le {n : Nat} : ∀ {ys : List Str}, (∀ z ∈ ys, z.length <= n) -> (ys.map (·.length)).sum <= ys.length * n
 | [], _ => core_Nat_zero_le_al _
 | y :: ys, h => by
  have a := h y core_List_mem_cons_self_al
  have b := sum_le (ys := ys) fun z hz => h z (core_List_mem_cons_of_mem_al _ hz)
  rw [core_List_map_cons_al, List.sum_cons, core_List_length_cons_al, Nat.succ_mul]
  omega
theorem len_sum {z : Str} : ∀ {ys : List Str}, z ∈ ys -> z.length <= (ys.map (·.length)).sum
 | y :: ys, h => by
  rw [core_List_map_cons_al, List.sum_cons]
  rcases core_List_mem_cons_al.mp h with rfl | h
  ·omega
  ·have := len_sum h
   omega
theorem ev_join {a : Str} {da : DE} {y : AV} {xs : List AV} {ys : List Str} (hd : da ρ S = .ok y S1) (hs : seqA S1 y = some xs) (ht : txtsA xs = some ys) (pa : Pl a) (ha : a.length <= 1) (pl : ∀ z ∈ ys, Pl z) (hl : (ys.map (·.length)).sum + ys.length <= 1000000) :
  dBM "str" fJoin (dC (.str a)) (dCons da dNil) ρ S = .ok (.str (Txt.join a ys)) S1 := by
 have h0 : (ys.map (·.length)).sum + ys.length * a.length <= 1000000 := by
  have : ys.length * a.length <= ys.length * 1 := Nat.mul_le_mul_left _ ha
  omega
 have hk : (decide ((ys.map (·.length)).sum + ys.length * a.length <= 16777216) && sokB (Txt.join a ys)) = true := by
  rw [core_decide_eq_true_al (by omega), sok_pl (join_pl pa pl) (core_Nat_le_trans_al (join_len a ys) (by omega))]
  rfl
 have hf : fJoin (.str a) [y] S1 = some (.str (Txt.join a ys), S1) := by
  unfold fJoin
  dsimp only
  rw [hs]
  dsimp only
  rw [ht]
  dsimp only
  rw [if_pos hk]
 unfold dBM
 rw [show dC (.str a) ρ S = .ok (.str a) S from rfl, Res.bind_ok, show tyA "str" (.str a) S = true from rfl, if_pos rfl, ev_cons hd ev_nil, Res.bind_ok, hf]
theorem ev_split {b : Str} {s : Nat} {dx : DE} {ys : List Str} (hx : dx ρ S = .ok (.str (Txt.join b ys)) S) (eb : tl b = [s]) (hs : s < 128) (hne : ys ≠ []) (hp : ∀ p ∈ ys, s ∉ tl p) (pl : ∀ z ∈ ys, Pl z) (hl : (ys.map (·.length)).sum + ys.length <= 1000000) :
  dlSplit dx (dCons (dC (.str b)) dNil) ρ S = .ok (ys.map .str) S := by
 have bl : b.length = 1 := by rw [len_tl, eb]; rfl
 have e : Txt.split (Txt.join b ys) b = ys := split_join eb (by
  rw [Array.all_eq_true']
  intro c hc
  have : c ∈ tl b := by rw [<- Array.mem_toList_iff] at hc; exact hc
  rw [eb, core_List_mem_singleton_al] at this
  exact core_decide_eq_true_al (by omega)) hne hp
 have h1 : (Txt.join b ys).length <= 1000000 := by
  have := join_len b ys
  rw [bl] at this
  omega
 have hz : ∀ z ∈ ys, z.length <= 1048576 := fun z hz => by
  have : z.length <= (ys.map (·.length)).sum := len_sum hz
  omega
 unfold dlSplit
 rw [hx, Res.bind_ok]
 dsimp only
 rw [ev_cons (show dC (.str b) ρ S = .ok (.str b) S from rfl) ev_nil, Res.bind_ok]
 dsimp only
 rw [e, if_pos]
 rw [bl, core_decide_eq_true_al (by omega), List.all_eq_true.mpr fun z h => sok_pl (pl z h) (hz z h)]
 rfl
theorem txts_str : ∀ ys : List Str, txtsA (ys.map .str) = some ys
 | [] => rfl
 | y :: ys => by
  show (txtsA (ys.map .str)).map (y :: ·) = _
  rw [txts_str ys]
  rfl
end
section
variable {S S1 : Store} {ρ : Dl.Env}
theorem tl_sp : tl (" " : Str) = [32] := by decide
theorem tl_nl : tl ("\n" : Str) = [10] := by decide
def nameB (z : Str) : Bool := (decide ((1 : Int) <= (z.length : Nat)) && decide (((z.length : Nat) : Int) <= 8)) && (tl z).all fun c => decide (c ∈ AZ.cps.toList)
theorem is_name_gen {z : Str} : F_is_name [.str z] S = .ok (.bl (nameB z)) S := by
 let ρ : Dl.Env := [some (.str z), none]
 refine ev_run (n := 2) ?_
 show d_is_name ρ S = _
 have ch : dChain fLe fLe (dC (.int 1)) (dCB fLen (dCons (dVar 0) dNil)) (dC (.int 8)) ρ S = .ok (.bl (decide ((1 : Int) <= (z.length : Nat)) && decide (((z.length : Nat) : Int) <= 8))) S := ev_chainI (ρ := ρ) (S := S) (f := fLe) (g := fLe) (a := 1) (b := (z.length : Nat)) (c := 8) ev_c (ev_cb (xs := [.str z]) (ev_cons (ev_vrx rfl) ev_nil) rfl) ev_c rfl rfl
 have t : dOr (dNot (dTest (dIsi "str" (dVar 0)))) (dNot (dTest (dChain fLe fLe (dC (.int 1)) (dCB fLen (dCons (dVar 0) dNil)) (dC (.int 8))))) ρ S = .ok (!(decide ((1 : Int) <= (z.length : Nat)) && decide (((z.length : Nat) : Int) <= 8))) S := ev_or (a := false) (b := !(decide ((1 : Int) <= (z.length : Nat)) && decide (((z.length : Nat) : Int) <= 8))) (ev_not (b := true) (ev_test (b := true) (da := dIsi "str" (dVar 0)) rfl)) fun _ => ev_not (ev_test ch)
 cases hb : (decide ((1 : Int) <= (z.length : Nat)) && decide (((z.length : Nat) : Int) <= 8)) with
 | false =>
  have e : nameB z = false := by unfold nameB; rw [hb]; rfl
  rw [e]
  exact ev_seqr ((ev_ift (t.trans (by rw [hb]; rfl))).trans (ev_ret ev_c))
 | true =>
  have e : nameB z = (tl z).all fun c => decide (c ∈ AZ.cps.toList) := by unfold nameB; rw [hb]; rfl
  have hl : z.length <= 8 := by
   have := of_decide_eq_true (core_Bool_and_eq_true_iff_al.mp hb).2
   omega
  rw [e]
  refine (ev_seq ((ev_iff (t.trans (by rw [hb]; rfl))).trans rfl)).trans ?_
  refine ev_ret (ev_all (l := tl z) (f := fun c => decide (c ∈ AZ.cps.toList)) (ev_fz (ev_lc (S1 := S) (its := ⟨Dl.signs z, fun _ => true⟩) (ev_any (ev_vrx rfl) rfl) (by unfold Dl.signs; rw [core_List_length_map_al]; have : z.cps.toList.length = z.length := rfl; unfold lim; omega) ?_)))
  exact lcL_gen (fun n : Nat => AV.str ⟨#[n]⟩) (fun c => .bl (decide (c ∈ AZ.cps.toList))) rfl (tl z) fun n hn => ⟨[some (.str z), some (.str ⟨#[n]⟩)], rfl, ev_op (x := .str ⟨#[n]⟩) (y := .str AZ) (ev_vrx rfl) ev_c rfl⟩
def DGT : Str := "0123456789"
def digB (z : Str) : Bool := match tl z with
 | [c] => decide (c ∈ tl DGT)
 | _ => false
theorem is_digit_gen {z : Str} : F_is_digit [.str z] S = .ok (.bl (digB z)) S := by
 let ρ : Dl.Env := [some (.str z)]
 refine ev_run (n := 1) ?_
 show d_is_digit ρ S = _
 have l : dOp (fEq false) (dCB fLen (dCons (dVar 0) dNil)) (dC (.int 1)) ρ S = .ok (.bl (decide (((z.length : Nat) : Int) = 1))) S := ev_op (x := .int (z.length : Nat)) (y := .int 1) (ev_cb (xs := [.str z]) (ev_cons (ev_vrx rfl) ev_nil) rfl) ev_c (by rw [fEq_int, if_neg Bool.false_ne_true])
 have ll := len_tl z
 unfold digB
 rcases h : tl z with _ | ⟨c, _ | ⟨d, r⟩⟩
 ·rw [h] at ll
  exact ev_ret (ev_andV (a := false) (b := false) (l.trans (by rw [ll]; rfl)) fun h => by cases h)
 ·rw [h] at ll
  refine ev_ret (ev_andV (a := true) (b := decide (c ∈ tl DGT)) (l.trans (by rw [ll]; rfl)) fun _ => ev_op (x := .str z) (y := .str DGT) (ev_vrx rfl) ev_c ?_)
  show (match z.cps.toList with
   | [c] => some (AV.bl (if false = true then !decide (c ∈ DGT.cps.toList) else decide (c ∈ DGT.cps.toList)))
   | _ => none) = _
  rw [show z.cps.toList = [c] from h]
  rfl
 ·rw [h] at ll
  exact ev_ret (ev_andV (a := false) (b := false) (l.trans (by rw [ll, core_decide_eq_false_al (by simp; omega)])) fun h => by cases h)
def kindsL : List (Str × List Str) := [("edit", Q9.i), ("fire", ["name"]), ("set", Q9.j), ("reload", [])]
theorem look_tabA {z : Str} : ∀ {l : List (Str × List Str)}, (Dl.tabA l).lookup z = (l.lookup z).map fun zs => AV.tup false (zs.map .str)
 | [] => rfl
 | q :: l => by
  show ((q.1, AV.tup false (q.2.map .str)) :: Dl.tabA l).lookup z = (((q.1, q.2) :: l).lookup z).map fun zs => AV.tup false (zs.map .str)
  rw [List.lookup_cons, List.lookup_cons]
  cases z == q.1 with
  | true => rfl
  | false => exact look_tabA
def okK (k z : Str) : Bool := if k = "name" then nameB z else digB z
def cvK (k z : Str) : AV := if k = "name" then .str z else ((PySem.intText? z).map AV.int).getD .non
def rdA : List Str -> AV
 | [] => .non
 | w :: r => match kindsL.lookup w with
  | none => .non
  | some ks => if ks.length = r.length then (if ((ks.zip r).all fun q => okK q.1 q.2) = true then .tup false (.str w :: (ks.zip r).map fun q => cvK q.1 q.2) else .non) else .non
theorem rdA_none {w : Str} {r : List Str} (hk : kindsL.lookup w = none) : rdA (w :: r) = .non := by
 unfold rdA
 simp only [hk]
theorem rdA_some {w : Str} {r ks : List Str} (hk : kindsL.lookup w = some ks) : rdA (w :: r) = if ks.length = r.length then (if ((ks.zip r).all fun q => okK q.1 q.2) = true then .tup false (.str w :: (ks.zip r).map fun q => cvK q.1 q.2) else .non) else .non := by
 unfold rdA
 simp only [hk]
theorem dig_int : ∀ k : Nat, k < 10 -> PySem.intText? ⟨#[48 + k]⟩ = some (k : Int) := by decide +kernel
theorem digs_at : ∀ c ∈ tl DGT, 48 <= c /\ c < 58 := by decide
theorem digB_int {z : Str} (h : digB z = true) : ∃ n : Int, PySem.intText? z = some n /\ z.length = 1 := by
 unfold digB at h
 split at h
 next c e =>
  have hc := digs_at c (of_decide_eq_true h)
  have ez : z = ⟨#[c]⟩ := ext_tl e
  have := dig_int (c - 48) (by omega)
  rw [show 48 + (c - 48) = c from by omega] at this
  exact ⟨_, by rw [ez]; exact this, by rw [ez]; rfl⟩
 next => cases h
abbrev rdB : DS := (dIfS (dNot (dIfT (dTest (dOp (fEq false) (dVar 4) (dC (.str "name")))) (dTest (dCall 1 F_is_name (dCons (dVar 5) dNil))) (dTest (dCall 1 F_is_digit (dCons (dVar 5) dNil))))) (dRet (dC .non)) dNext)
theorem kk_ev {k : Str} {i : Nat} (hi : ρ[i]? = some (some (.str k))) : dTest (dOp (fEq false) (dVar i) (dC (.str "name"))) ρ S = .ok (decide (k = "name")) S := ev_test (ev_op (x := .str k) (y := .str "name") (ev_vrx hi) ev_c (by rw [fEq_str, if_neg Bool.false_ne_true]))
theorem read_deed_ev {ys : List Str} (hne : ys ≠ []) (hp : ∀ p ∈ ys, 32 ∉ tl p) (pl : ∀ z ∈ ys, Pl z) (hl : (ys.map (·.length)).sum + ys.length <= 1000000) : F_read_deed [.str (Txt.join " " ys)] S = .ok (rdA ys) S := by
 let z : Option AV := none
 obtain ⟨w, r, rfl⟩ := List.exists_cons_of_ne_nil hne
 let T := Txt.join " " (w :: r)
 let ρ := fun (o1 o2 o3 o4 o5 : Option AV) => ([some (.str T), o1, o2, o3, o4, o5] : Dl.Env)
 let W := some (AV.str w)
 let R := some (AV.lst (r.map .str))
 refine ev_run (n := 6) ?_
 show d_read_deed (ρ z z z z z) S = _
 have rl : r.length <= 1000000 := by rw [core_List_length_cons_al] at hl; omega
 refine (ev_seq (ρ1 := ρ W R z z z) (S1 := S) (ev_asg (x := .lst (.str w :: r.map .str)) (ev_fz (ev_split (ys := w :: r) (s := 32) (ev_vrx rfl) tl_sp (by decide) hne hp pl hl)) rfl)).trans ?_
 have kg : dKGet gd_DEEDS (dVar 1) (ρ W R z z z) S = .ok (((kindsL.lookup w).map fun zs => AV.tup false (zs.map .str)).getD .non) S := by
  rw [<- look_tabA]
  rfl
 cases hk : kindsL.lookup w with
 | none =>
  rw [rdA_none hk]
  rw [hk] at kg
  refine (ev_seq (ρ1 := ρ W R (some .non) z z) (S1 := S) (ev_asg kg rfl)).trans ?_
  exact ev_seqr ((ev_ift (ev_or (a := true) (b := true) (ev_test (ev_op (x := .non) (y := .non) (z := .bl true) (ev_vrx rfl) ev_c rfl)) fun h => by cases h)).trans (ev_ret ev_c))
 | some ks =>
  rw [rdA_some hk]
  rw [hk] at kg
  have kl : ks.length <= 2 := by
   have : ∀ q ∈ kindsL, q.2.length <= 2 := by decide
   have hm : ∃ q ∈ kindsL, q.2 = ks := by
    exact ⟨_, PySem.mem_of_lookup hk, rfl⟩
   obtain ⟨q, hq, e⟩ := hm
   rw [<- e]
   exact this q hq
  let Kv : AV := .tup false (ks.map .str)
  let K := some Kv
  refine (ev_seq (ρ1 := ρ W R K z z) (S1 := S) (ev_asg (x := Kv) kg rfl)).trans ?_
  have t : dOr (dTest (dOp (fIsN false) (dVar 3) (dC .non))) (dTest (dOp (fEq true) (dCB fLen (dCons (dVar 3) dNil)) (dCB fLen (dCons (dVar 2) dNil)))) (ρ W R K z z) S = .ok (!decide ((ks.length : Int) = r.length)) S := ev_or (a := false) (b := !decide ((ks.length : Int) = r.length)) (ev_test (ev_op (x := Kv) (y := .non) (z := .bl false) (ev_vrx rfl) ev_c rfl)) fun _ => ev_test (ev_op (x := .int (ks.length : Nat)) (y := .int (r.length : Nat)) (ev_cb (xs := [Kv]) (ev_cons (ev_vrx rfl) ev_nil) (by show some (AV.int ((ks.map AV.str).length : Nat)) = _; rw [core_List_length_map_al])) (ev_cb (xs := [.lst (r.map .str)]) (ev_cons (ev_vrx rfl) ev_nil) (by show some (AV.int ((r.map AV.str).length : Nat)) = _; rw [core_List_length_map_al])) (by rw [fEq_int, if_pos rfl]))
  by_cases hlen : ks.length = r.length
  ·rw [if_pos hlen]
   refine (ev_seq ((ev_iff (t.trans (by rw [core_decide_eq_true_al (by omega)]; rfl))).trans rfl)).trans ?_
   let l := ks.zip r
   have zz : ∀ (a b : List Str), zipd (a.map AV.str) (b.map AV.str) = (a.zip b).map fun q => AV.tup false [.str q.1, .str q.2] := fun a => by
    induction a with
    | nil => intro b; rfl
    | cons x a ih =>
     intro b
     cases b with
     | nil => rfl
     | cons y b =>
      show AV.tup false [.str x, .str y] :: zipd (a.map AV.str) (b.map AV.str) = _
      rw [ih b]
      rfl
   have zi : ∀ o4 o5, diZip (dCons (dVar 3) (dCons (dVar 2) dNil)) (ρ W R K o4 o5) S = .ok ⟨l.map fun q => .tup false [.str q.1, .str q.2], fun _ => true⟩ S := fun o4 o5 => by
    unfold diZip
    rw [ev_cons (ev_vrx (x := Kv) rfl) (ev_cons (ev_vrx (x := .lst (r.map .str)) rfl) ev_nil), Res.bind_ok, <- zz]
    rfl
   have loop : ∀ (l : List (Str × Str)) (o4 o5 : Option AV), ∃ q4 q5, forL (fun _ => true) (dgTup 2 (dgCons (dgName 4) (dgCons (dgName 5) dgNil))) rdB (l.map fun q => .tup false [.str q.1, .str q.2]) (ρ W R K o4 o5) S = if (l.all fun q => okK q.1 q.2) = true then .go (.nx (ρ W R K q4 q5)) S else .go (.rt .non) S := by
    intro l
    induction l with
    | nil => intro o4 o5; exact ⟨o4, o5, ev_forN rfl⟩
    | cons q l ih =>
     intro o4 o5
     obtain ⟨k, y⟩ := q
     obtain ⟨q4, q5, e⟩ := ih (some (.str k)) (some (.str y))
     refine ⟨q4, q5, ?_⟩
     have tt : dIfT (dTest (dOp (fEq false) (dVar 4) (dC (.str "name")))) (dTest (dCall 1 F_is_name (dCons (dVar 5) dNil))) (dTest (dCall 1 F_is_digit (dCons (dVar 5) dNil))) (ρ W R K (some (.str k)) (some (.str y))) S = .ok (okK k y) S := by
      unfold dIfT okK
      rw [kk_ev (k := k) rfl, Res.bind_ok]
      by_cases hn : k = "name"
      ·rw [core_decide_eq_true_al hn, if_pos rfl, if_pos hn]
       exact ev_test (ev_call (avs := [.str y]) (ev_cons (ev_vrx rfl) ev_nil) rfl is_name_gen)
      ·rw [core_decide_eq_false_al hn, if_neg Bool.false_ne_true, if_neg hn]
       exact ev_test (ev_call (avs := [.str y]) (ev_cons (ev_vrx rfl) ev_nil) rfl is_digit_gen)
     rw [List.all_cons]
     cases hb : okK k y with
     | true =>
      rw [Bool.true_and]
      exact (ev_forC (ρ1 := ρ W R K (some (.str k)) (some (.str y))) (ρ2 := ρ W R K (some (.str k)) (some (.str y))) (S2 := S) rfl rfl ((ev_iff ((ev_not tt).trans (by rw [hb]; rfl))).trans rfl)).trans e
     | false =>
      rw [Bool.false_and, if_neg Bool.false_ne_true]
      exact ev_forR (ρ1 := ρ W R K (some (.str k)) (some (.str y))) rfl rfl ((ev_ift ((ev_not tt).trans (by rw [hb]; rfl))).trans (ev_ret ev_c))
   obtain ⟨q4, q5, e⟩ := loop l z z
   cases ha : (l.all fun q => okK q.1 q.2) with
   | false =>
    rw [ha, if_neg Bool.false_ne_true] at e
    rw [if_neg Bool.false_ne_true]
    exact ev_seqr ((ev_for (zi z z)).trans e)
   | true =>
    rw [ha, if_pos rfl] at e
    rw [if_pos rfl]
    refine (ev_seq (ρ1 := ρ W R K q4 q5) (S1 := S) ((ev_for (zi z z)).trans e)).trans ?_
    have ll : l.length <= 2 := by show (ks.zip r).length <= 2; rw [List.length_zip]; omega
    refine ev_ret (ev_addT (xs := [.str w]) (ys := l.map fun q => cvK q.1 q.2) (q := false) (ev_tupL (ev_cons (ev_vrx rfl) ev_nil) (by show 1 <= 1000000; decide)) (ev_cb (xs := [.lst (l.map fun q => cvK q.1 q.2)]) (ev_cons (ev_fz (ev_lc (S1 := S) (its := ⟨l.map fun q => .tup false [.str q.1, .str q.2], fun _ => true⟩) (zi q4 q5) (by show (l.map _).length <= 1000000; rw [core_List_length_map_al]; omega) ?_)) ev_nil) rfl) (by rw [core_List_length_map_al]; show 1 + _ <= 1000000; omega))
    refine lcL_gen (fun q : Str × Str => AV.tup false [.str q.1, .str q.2]) (fun q => cvK q.1 q.2) rfl l fun q hq => ⟨ρ W R K (some (.str q.1)) (some (.str q.2)), rfl, ?_⟩
    have ok := List.all_eq_true.mp ha q hq
    unfold okK at ok
    unfold dIf cvK
    rw [kk_ev (k := q.1) rfl, Res.bind_ok]
    by_cases hn : q.1 = "name"
    ·rw [core_decide_eq_true_al hn, if_pos rfl, if_pos hn]
     exact ev_vrx rfl
    ·rw [if_neg hn] at ok
     obtain ⟨n, h1, h2⟩ := digB_int ok
     rw [core_decide_eq_false_al hn, if_neg Bool.false_ne_true, if_neg hn, h1]
     refine ev_cb (xs := [.str q.2]) (ev_cons (ev_vrx rfl) ev_nil) ?_
     show (if decide (q.2.length <= 640) = true then (PySem.intText? q.2).map AV.int else none) = _
     rw [if_pos (core_decide_eq_true_al (by omega)), h1]
     rfl
  ·rw [if_neg hlen]
   exact ev_seqr ((ev_ift (t.trans (by rw [core_decide_eq_false_al (by omega)]; rfl))).trans (ev_ret ev_c))
end
section
variable {S S1 : Store} {ρ : Dl.Env}
def lineT (ys : List Str) : Str := Txt.join " " ys
theorem pl_sp : Pl " " := by unfold Pl; decide
theorem pl_nl : Pl "\n" := by unfold Pl; decide
theorem PsOk.sum {ys : List Str} (h : PsOk ys) : (ys.map (·.length)).sum <= 60 := by
 have := sum_le (n := 10) h.z
 have := h.l
 have : ys.length * 10 <= 6 * 10 := Nat.mul_le_mul_right _ h.l
 omega
theorem PsOk.len {ys : List Str} (h : PsOk ys) : (lineT ys).length <= 66 := by
 have a := join_len " " ys
 have b := h.sum
 have c := h.l
 have d : (" " : Str).length = 1 := by decide
 rw [d] at a
 show (Txt.join " " ys).length <= 66
 omega
theorem PsOk.lpl {ys : List Str} (h : PsOk ys) : Pl (lineT ys) := join_pl pl_sp h.pl
theorem PsOk.lnl {ys : List Str} (h : PsOk ys) : 10 ∉ tl (lineT ys) := fun hm => by
 have hm : 10 ∈ tl (Txt.join " " ys) := hm
 rw [join_tl] at hm
 rcases joinL_mem hm with e | ⟨p, hp, e⟩
 ·rw [tl_sp] at e
  exact absurd e (by decide)
 ·obtain ⟨z, hz, rfl⟩ := core_List_mem_map_al.mp hp
  exact h.nl z hz e
theorem deed_line {ys : List Str} (h : PsOk ys) : F_read_deed [.str (lineT ys)] S = .ok (rdA ys) S := read_deed_ev h.ne h.sp h.pl (by have := h.sum; have := h.l; omega)
def textT (L : List (List Str)) : Str := Txt.join "\n" (L.map lineT)
structure LsOk (L : List (List Str)) : Prop where
 n : L.length <= 100
 ok : ∀ ys ∈ L, PsOk ys
theorem LsOk.sum {L : List (List Str)} (h : LsOk L) : ((L.map lineT).map (·.length)).sum <= 6600 := by
 have a := sum_le (n := 66) (ys := L.map lineT) fun z hz => by
  obtain ⟨ys, hy, rfl⟩ := core_List_mem_map_al.mp hz
  exact (h.ok ys hy).len
 rw [core_List_length_map_al] at a
 have := h.n
 omega
abbrev rB : DS := (dSeq (dAsg (dCall 1 F_read_deed (dCons (dVar 3) dNil)) (dgName 4))
 (dSeq (dIfS (dTest (dOp (fIsN false) (dVar 4) (dC .non))) (dRaise "InvalidText" "line" smI idA (dCons (dOp fAdd (dVar 2) (dC (.int 1))) dNil)) dNext)
 (dDrop (dBM "list" fAppend (dVar 1) (dCons (dVar 4) dNil)))))
def isNonA : AV -> Bool
 | .non => true
 | _ => false
theorem isNXA {x : AV} : fIsN false x .non S = some (.bl (isNonA x)) := by cases x <;> rfl
abbrev rG : DG := dgTup 2 (dgCons (dgName 2) (dgCons (dgName 3) dgNil))
def rE (t : AV) (q : Nat) (o2 o3 o4 : Option AV) : Dl.Env := [some t, some (.ref q), o2, o3, o4]
theorem app_last {i : Nat} {xs : List AV} {y : AV} {de : DE} (hi : ρ[i]? = some (some (.ref S.length))) (he : de ρ (S ++ [.lst xs]) = .ok y (S ++ [.lst xs])) (hl : xs.length <= 1000) : dDrop (dBM "list" fAppend (dVar i) (dCons de dNil)) ρ (S ++ [.lst xs]) = .go (.nx ρ) (S ++ [.lst (xs ++ [y])]) := by
 refine (app_ev (xs := xs) (y := y) (q := S.length) (T1 := S ++ [.lst xs]) hi stL_new he stL_new hl).trans ?_
 rw [List.set_append_right _ _ (core_Nat_le_refl_al _), Nat.sub_self]
 rfl
theorem rstep {t : AV} {ys : List Str} {k : Nat} {acc : List AV} {o4 : Option AV} (h : PsOk ys) (hk : k <= 1000) (ha : acc.length <= 900) :
  (isNonA (rdA ys) = false -> rB (rE t S.length (some (.int (k : Nat))) (some (.str (lineT ys))) o4) (S ++ [.lst acc]) = .go (.nx (rE t S.length (some (.int (k : Nat))) (some (.str (lineT ys))) (some (rdA ys)))) (S ++ [.lst (acc ++ [rdA ys])])) /\
  (isNonA (rdA ys) = true -> rB (rE t S.length (some (.int (k : Nat))) (some (.str (lineT ys))) o4) (S ++ [.lst acc]) = .go (.xc (rE t S.length (some (.int (k : Nat))) (some (.str (lineT ys))) (some (rdA ys))) (.exc "InvalidText" [("line", .int ((k : Int) + 1))])) (S ++ [.lst acc])) := by
 let ρ1 := rE t S.length (some (.int (k : Nat))) (some (.str (lineT ys))) (some (rdA ys))
 have pre : ∀ {d : DS} {res : RS}, d ρ1 (S ++ [.lst acc]) = res -> dSeq (dAsg (dCall 1 F_read_deed (dCons (dVar 3) dNil)) (dgName 4)) d (rE t S.length (some (.int (k : Nat))) (some (.str (lineT ys))) o4) (S ++ [.lst acc]) = res := fun {d res} hd => (ev_seq (ρ1 := ρ1) (S1 := S ++ [.lst acc]) (ev_asg (ev_call (avs := [.str (lineT ys)]) (ev_cons (ev_vrx rfl) ev_nil) rfl (deed_line h)) rfl)).trans hd
 have tst : dTest (dOp (fIsN false) (dVar 4) (dC .non)) ρ1 (S ++ [.lst acc]) = .ok (isNonA (rdA ys)) (S ++ [.lst acc]) := ev_test (ev_op (x := rdA ys) (y := .non) (ev_vrx rfl) ev_c isNXA)
 refine ⟨fun hn => pre ?_, fun hn => pre ?_⟩
 ·refine (ev_seq ((ev_iff (tst.trans (by rw [hn]))).trans rfl)).trans ?_
  exact app_last rfl (ev_vrx rfl) (by omega)
 ·refine ev_seqx ((ev_ift (tst.trans (by rw [hn]))).trans (raise_ev (x := .int ((k : Int) + 1)) (ev_op (x := .int (k : Nat)) (y := .int 1) (ev_vrx rfl) ev_c rfl) ?_))
  show decide (((k : Int) + 1).natAbs.log2 < 1920) = true
  refine core_decide_eq_true_al (Nat.lt_of_le_of_lt (Nat.log2_le_self _) (by omega))
theorem rgood {t : AV} : ∀ (L : List (List Str)) (k : Nat) (acc : List AV) (o2 o3 o4 : Option AV), (∀ ys ∈ L, PsOk ys) -> (∀ ys ∈ L, isNonA (rdA ys) = false) -> k + L.length <= 200 -> acc.length + L.length <= 200 -> ∃ q2 q3 q4, forL (fun _ => true) rG rB (numd k (L.map fun ys => .str (lineT ys))) (rE t S.length o2 o3 o4) (S ++ [.lst acc]) = .go (.nx (rE t S.length q2 q3 q4)) (S ++ [.lst (acc ++ L.map rdA)])
 | [], k, acc, o2, o3, o4, _, _, _, _ => ⟨o2, o3, o4, (ev_forN rfl).trans (by rw [List.map_nil, core_List_append_nil_al])⟩
 | ys :: L, k, acc, o2, o3, o4, h, hn, hk, ha => by
  rw [core_List_length_cons_al] at hk ha
  obtain ⟨q2, q3, q4, e⟩ := rgood (t := t) L (k + 1) (acc ++ [rdA ys]) (some (.int (k : Nat))) (some (.str (lineT ys))) (some (rdA ys)) (fun z hz => h z (core_List_mem_cons_of_mem_al _ hz)) (fun z hz => hn z (core_List_mem_cons_of_mem_al _ hz)) (by omega) (by rw [core_List_length_append_al]; show acc.length + 1 + _ <= 200; omega)
  rw [core_List_append_assoc_al] at e
  exact ⟨q2, q3, q4, (ev_forC (ρ1 := rE t S.length (some (.int (k : Nat))) (some (.str (lineT ys))) o4) rfl rfl ((rstep (h ys core_List_mem_cons_self_al) (by omega) (by omega)).1 (hn ys core_List_mem_cons_self_al))).trans e⟩
theorem rbad {t : AV} {b : List Str} {R : List (List Str)} (hb : PsOk b) (hbn : isNonA (rdA b) = true) : ∀ (L : List (List Str)) (k : Nat) (acc : List AV) (o2 o3 o4 : Option AV), (∀ ys ∈ L, PsOk ys) -> (∀ ys ∈ L, isNonA (rdA ys) = false) -> k + L.length <= 200 -> acc.length + L.length <= 200 -> ∃ ρ1 T, forL (fun _ => true) rG rB (numd k ((L ++ b :: R).map fun ys => .str (lineT ys))) (rE t S.length o2 o3 o4) (S ++ [.lst acc]) = .go (.xc ρ1 (.exc "InvalidText" [("line", .int (((k + L.length : Nat) : Int) + 1))])) (S ++ [.lst T])
 | [], k, acc, o2, o3, o4, _, _, hk, ha => ⟨_, acc, forX (ρ1 := rE t S.length (some (.int (k : Nat))) (some (.str (lineT b))) o4) rfl rfl ((rstep hb (by omega) (by omega)).2 hbn)⟩
 | ys :: L, k, acc, o2, o3, o4, h, hn, hk, ha => by
  rw [core_List_length_cons_al] at hk ha
  obtain ⟨ρ1, T, e⟩ := rbad (t := t) (R := R) hb hbn L (k + 1) (acc ++ [rdA ys]) (some (.int (k : Nat))) (some (.str (lineT ys))) (some (rdA ys)) (fun z hz => h z (core_List_mem_cons_of_mem_al _ hz)) (fun z hz => hn z (core_List_mem_cons_of_mem_al _ hz)) (by omega) (by rw [core_List_length_append_al]; show acc.length + 1 + _ <= 200; omega)
  refine ⟨ρ1, T, ?_⟩
  rw [show k + (ys :: L).length = k + 1 + L.length from by rw [core_List_length_cons_al]; omega]
  exact (ev_forC (ρ1 := rE t S.length (some (.int (k : Nat))) (some (.str (lineT ys))) o4) rfl rfl ((rstep (h ys core_List_mem_cons_self_al) (by omega) (by omega)).1 (hn ys core_List_mem_cons_self_al))).trans e
theorem splitT {t : Str} {L : List (List Str)} {dx : DE} (h : LsOk L) (hne : L ≠ []) (et : t = textT L) (hx : dx ρ S = .ok (.str t) S) : diEn (dCons (dFz (dlSplit dx (dCons (dC (.str "\n")) dNil))) dNil) ρ S = .ok ⟨numd 0 (L.map fun ys => .str (lineT ys)), fun _ => true⟩ S := by
 have sp : dlSplit dx (dCons (dC (.str "\n")) dNil) ρ S = .ok ((L.map lineT).map .str) S := ev_split (s := 10) (hx.trans (by rw [et]; rfl)) tl_nl (by decide) (fun e => hne (List.map_eq_nil_iff.mp e)) (fun p hp => by
   obtain ⟨ys, hy, rfl⟩ := core_List_mem_map_al.mp hp
   exact (h.ok ys hy).lnl) (fun p hp => by
   obtain ⟨ys, hy, rfl⟩ := core_List_mem_map_al.mp hp
   exact (h.ok ys hy).lpl) (by have := h.sum; have := h.n; rw [core_List_length_map_al]; omega)
 unfold diEn
 rw [ev_cons (ev_fz sp) ev_nil, Res.bind_ok, core_List_map_map_al]
 rfl
theorem reads_good {L : List (List Str)} (h : LsOk L) (hne : L ≠ []) (ht : textT L ≠ "") (hn : ∀ ys ∈ L, isNonA (rdA ys) = false) : F_read_deeds [.str (textT L)] S = .ok (.tup false (L.map rdA)) (S ++ [.lst (L.map rdA)]) := by
 let z : Option AV := none
 have hl := h.n
 obtain ⟨q2, q3, q4, e⟩ := rgood (S := S) (t := .str (textT L)) L 0 [] z z z h.ok hn (by omega) (by show 0 + _ <= 200; omega)
 refine ev_run (n := 5) ?_
 show d_read_deeds [some (.str (textT L)), z, z, z, z] S = _
 have t0 : dTest (dOp (fEq false) (dVar 0) (dC (.str ""))) [some (.str (textT L)), z, z, z, z] S = .ok false S := ev_test (ev_op (x := .str (textT L)) (y := .str "") (ev_vrx rfl) ev_c (by rw [fEq_str, if_neg Bool.false_ne_true, core_decide_eq_false_al ht]))
 refine (ev_seq ((ev_iff t0).trans rfl)).trans ?_
 refine (ev_seq (ρ1 := rE (.str (textT L)) S.length z z z) (S1 := S ++ [.lst []]) (ev_asg (x := .ref S.length) rfl rfl)).trans ?_
 refine (ev_seq (ρ1 := rE (.str (textT L)) S.length q2 q3 q4) (S1 := S ++ [.lst (L.map rdA)]) ((ev_for (splitT h hne rfl (ev_vrx rfl))).trans e)).trans ?_
 refine ev_ret (ev_cb (xs := [.ref S.length]) (ev_cons (ev_vrx rfl) ev_nil) ?_)
 have hs : seqA (S ++ [.lst (L.map rdA)]) (.ref S.length) = some (L.map rdA) := by
  show Dl.stL (S ++ [.lst (L.map rdA)]) S.length = _
  exact stL_new
 unfold fTupL fTuple tupA
 dsimp only
 rw [show Dl.seqL (S ++ [.lst (L.map rdA)]) (.ref S.length) = some (L.map rdA) from hs]
 rfl
theorem reads_bad {L R : List (List Str)} {b : List Str} (h : LsOk (L ++ b :: R)) (ht : textT (L ++ b :: R) ≠ "") (hn : ∀ ys ∈ L, isNonA (rdA ys) = false) (hb : isNonA (rdA b) = true) : ∃ S', F_read_deeds [.str (textT (L ++ b :: R))] S = .exc (.exc "InvalidText" [("line", .int ((L.length : Int) + 1))]) S' /\ ∃ T, S' = S ++ [.lst T] := by
 let z : Option AV := none
 have hl := h.n
 rw [core_List_length_append_al, core_List_length_cons_al] at hl
 obtain ⟨ρ1, T, e⟩ := rbad (S := S) (t := .str (textT (L ++ b :: R))) (R := R) (h.ok b (core_List_mem_append_right_al _ core_List_mem_cons_self_al)) hb L 0 [] z z z (fun ys hy => h.ok ys (core_List_mem_append_left_al _ hy)) hn (by omega) (by show 0 + _ <= 200; omega)
 rw [Nat.zero_add] at e
 refine ⟨S ++ [.lst T], ev_runX (n := 5) (ρ1 := ρ1) ?_, T, rfl⟩
 show d_read_deeds [some (.str (textT (L ++ b :: R))), z, z, z, z] S = _
 have t0 : dTest (dOp (fEq false) (dVar 0) (dC (.str ""))) [some (.str (textT (L ++ b :: R))), z, z, z, z] S = .ok false S := ev_test (ev_op (x := .str (textT (L ++ b :: R))) (y := .str "") (ev_vrx rfl) ev_c (by rw [fEq_str, if_neg Bool.false_ne_true, core_decide_eq_false_al ht]))
 refine (ev_seq ((ev_iff t0).trans rfl)).trans ?_
 refine (ev_seq (ρ1 := rE (.str (textT (L ++ b :: R))) S.length z z z) (S1 := S ++ [.lst []]) (ev_asg (x := .ref S.length) rfl rfl)).trans ?_
 exact ev_seqx ((ev_for (splitT h (by simp) rfl (ev_vrx rfl))).trans e)
theorem lread_good {L : List (List Str)} (h : LsOk L) (hne : L ≠ []) (ht : textT L ≠ "") (hn : ∀ ys ∈ L, isNonA (rdA ys) = false) : F__law_read [.str (textT L)] S = .ok (.tup false [.str "deeds", .tup false (L.map rdA)]) (S ++ [.lst (L.map rdA)]) := by
 refine ev_run (n := 3) ?_
 show d__law_read [some (.str (textT L)), none, none] S = _
 refine (ev_seq (ρ1 := [some (.str (textT L)), some (.tup false (L.map rdA)), none]) (S1 := S ++ [.lst (L.map rdA)]) (ev_tryAsN (ev_asg (ev_call (avs := [.str (textT L)]) (ev_cons (ev_vrx rfl) ev_nil) rfl (reads_good h hne ht hn)) rfl))).trans ?_
 exact ev_ret (ev_tupL (ev_cons ev_c (ev_cons (ev_vrx rfl) ev_nil)) (by show 2 <= 1000000; decide))
theorem lread_none : F__law_read [.str ""] S = .ok (.tup false [.str "deeds", .tup true []]) S := by rfl
theorem lread_bad {L R : List (List Str)} {b : List Str} (h : LsOk (L ++ b :: R)) (ht : textT (L ++ b :: R) ≠ "") (hn : ∀ ys ∈ L, isNonA (rdA ys) = false) (hb : isNonA (rdA b) = true) : ∃ S', F__law_read [.str (textT (L ++ b :: R))] S = .ok (.tup false [.str "line", .int ((L.length : Int) + 1)]) S' /\ ∃ T, S' = S ++ [.lst T] := by
 obtain ⟨S', e, T, rfl⟩ := reads_bad (S := S) h ht hn hb
 refine ⟨_, ev_run (n := 3) ?_, T, rfl⟩
 show d__law_read [some (.str (textT (L ++ b :: R))), none, none] S = _
 have c : dAsg (dCall 1 F_read_deeds (dCons (dVar 0) dNil)) (dgName 1) [some (.str (textT (L ++ b :: R))), none, none] S = .go (.xc [some (.str (textT (L ++ b :: R))), none, none] (.exc "InvalidText" [("line", .int ((L.length : Int) + 1))])) (S ++ [.lst T]) := by
  refine asg_exc ?_
  unfold dCall
  rw [ev_cons (ev_vrx (x := .str (textT (L ++ b :: R))) rfl) ev_nil, Res.bind_ok, if_pos (show [AV.str (textT (L ++ b :: R))].length = 1 from rfl), e]
 exact ev_seqr' (ev_tryAsX c rfl)
end
section
variable {S S1 T : Store} {ρ : Dl.Env} {p q : Nat}
def Dd.av (d : Dd) : AV := .tup false (d.pq.map (·.1))
theorem nameB_ok {z : Str} (h : IsName z) : nameB z = true := by
 have a := h.lo
 have b := h.hi
 unfold nameB
 rw [core_decide_eq_true_al (by omega), core_decide_eq_true_al (by omega)]
 refine List.all_eq_true.mpr fun c hc => core_decide_eq_true_al (az_mem c (h.az c hc).1 (h.az c hc).2)
theorem digB_dig : ∀ k : Nat, k < 10 -> digB (dig k) = true /\ PySem.intText? (dig k) = some (k : Int) := by decide +kernel
theorem Dd.rd {d : Dd} (h : d.Ok) : rdA d.ps = d.av := by
 cases d with
 | edit n k =>
  obtain ⟨d1, d2⟩ := digB_dig k h.2
  have ok : ((Q9.i : List Str).zip [n, dig k]).all (fun q => okK q.1 q.2) = true := by
   show (okK "name" n && (okK "digit" (dig k) && true)) = true
   unfold okK
   rw [if_pos rfl, if_neg (by decide), nameB_ok h.1, d1]
   rfl
  refine (rdA_some (w := "edit") (r := [n, dig k]) (ks := Q9.i) rfl).trans ?_
  refine (if_pos rfl).trans ((if_pos ok).trans ?_)
  show AV.tup false [.str "edit", cvK "name" n, cvK "digit" (dig k)] = _
  unfold cvK
  rw [if_pos rfl, if_neg (by decide), d2]
  rfl
 | fire n =>
  have ok : ((["name"] : List Str).zip [n]).all (fun q => okK q.1 q.2) = true := by
   show (okK "name" n && true) = true
   unfold okK
   rw [if_pos rfl, nameB_ok h]
   rfl
  refine (rdA_some (w := "fire") (r := [n]) (ks := ["name"]) rfl).trans ?_
  refine (if_pos rfl).trans ((if_pos ok).trans ?_)
  show AV.tup false [.str "fire", cvK "name" n] = _
  unfold cvK
  rw [if_pos rfl]
  rfl
 | set n w =>
  have ok : ((Q9.j : List Str).zip [n, w]).all (fun q => okK q.1 q.2) = true := by
   show (okK "name" n && (okK "name" w && true)) = true
   unfold okK
   rw [if_pos rfl, if_pos rfl, nameB_ok h.1, nameB_ok h.2]
   rfl
  refine (rdA_some (w := "set") (r := [n, w]) (ks := Q9.j) rfl).trans ?_
  refine (if_pos rfl).trans ((if_pos ok).trans ?_)
  show AV.tup false [.str "set", cvK "name" n, cvK "name" w] = _
  unfold cvK
  rw [if_pos rfl, if_pos rfl]
  rfl
 | reload => rfl
theorem Dd.nn {d : Dd} (h : d.Ok) : isNonA (rdA d.ps) = false := by rw [Dd.rd h]; rfl
theorem any_deed_ev {l : List Str} {m : Int} (hP : Pool S p) (hq : q ≠ p) (hs : Dl.stL S q = some (l.map .str)) (hn : ∀ z ∈ l, IsName z) (hl : 0 < l.length) (hl2 : l.length <= 100) (m0 : 0 < m) (m1 : m <= 10) : ∃ d S', F__law_any_deed [.ref p, .ref q, .int m] S = .ok (Dd.av d) S' /\ Go p S S' /\ d.Ok := by
 let z : Option AV := none
 obtain ⟨k, S1, e1, k0, k1, g1⟩ := draw_ev (m := 4) (by decide) (by decide) hP
 let ρ : Option AV -> Dl.Env := fun o3 => [some (.ref p), some (.ref q), some (.int m), o3]
 have pk : ∀ {T : Store}, Go p S T -> ∃ n ∈ l, ∃ T', dCall 2 F__law_pick (dCons (dVar 0) (dCons (dVar 1) dNil)) (ρ (some (.int k))) T = .ok (.str n) T' /\ Go p T T' := fun {T} g => by
  obtain ⟨y, hy, T', e, g'⟩ := pick_ref g.pool hq (g.stL hs hq) (by rw [core_List_length_map_al]; exact hl) (by rw [core_List_length_map_al]; omega)
  obtain ⟨n, hn, rfl⟩ := core_List_mem_map_al.mp hy
  exact ⟨n, hn, T', ev_call (avs := [.ref p, .ref q]) (ev_cons (ev_vrx rfl) (ev_cons (ev_vrx rfl) ev_nil)) rfl e, g'⟩
 have head : ∀ {d : DS} {res : RS}, d (ρ (some (.int k))) S1 = res -> dSeq (dAsg (dCall 2 F__law_draw (dCons (dVar 0) (dCons (dC (.int 4)) dNil))) (dgName 3)) d (ρ z) S = res := fun {d res} hd => (ev_seq (ρ1 := ρ (some (.int k))) (S1 := S1) (ev_asg (ev_call (avs := [.ref p, .int 4]) (ev_cons (ev_vrx rfl) (ev_cons ev_c ev_nil)) rfl e1) rfl)).trans hd
 have tst : ∀ j : Int, dTest (dOp (fEq false) (dVar 3) (dC (.int j))) (ρ (some (.int k))) S1 = .ok (decide (k = j)) S1 := fun j => eq_int j (ev_vrx rfl)
 have no : ∀ {j : Int} {d d' : DS} {res : RS}, k ≠ j -> d' (ρ (some (.int k))) S1 = res -> dSeq (dIfS (dTest (dOp (fEq false) (dVar 3) (dC (.int j)))) d dNext) d' (ρ (some (.int k))) S1 = res := fun {j d d' res} hn hd => (ev_seq ((ev_iff ((tst j).trans (by rw [core_decide_eq_false_al hn]))).trans rfl)).trans hd
 have ye : ∀ {j : Int} {de : DE} {d' : DS} {x : AV} {T : Store}, k = j -> de (ρ (some (.int k))) S1 = .ok x T -> dSeq (dIfS (dTest (dOp (fEq false) (dVar 3) (dC (.int j)))) (dRet de) dNext) d' (ρ (some (.int k))) S1 = .go (.rt x) T := fun {j de d' x T} hn hd => ev_seqr' ((ev_ift ((tst j).trans (by rw [core_decide_eq_true_al hn]))).trans (ev_ret hd))
 obtain ⟨n, hnl, T1, e2, g2⟩ := pk g1
 obtain h | h | h | h : k = 0 ∨ k = 1 ∨ k = 2 ∨ k = 3 := by omega
 ·obtain ⟨c, T2, e3, c0, c1, g3⟩ := draw_ev (m := m) m0 (by omega) g2.pool
  obtain ⟨c, rfl⟩ : ∃ j : Nat, c = (j : Int) := ⟨c.toNat, by omega⟩
  refine ⟨.edit n c, T2, ev_run (n := 4) (head (ye h (ev_tupL (ev_cons ev_c (ev_cons e2 (ev_cons (ev_call (avs := [.ref p, .int m]) (ev_cons (ev_vrx rfl) (ev_cons (ev_vrx rfl) ev_nil)) rfl e3) ev_nil))) (by show 3 <= 1000000; decide)))), (g1.trans g2).trans g3, hn n hnl, by omega⟩
 ·exact ⟨.fire n, T1, ev_run (n := 4) (head (no (by omega) (ye h (ev_tupL (ev_cons ev_c (ev_cons e2 ev_nil)) (by show 2 <= 1000000; decide))))), g1.trans g2, hn n hnl⟩
 ·obtain ⟨w, hwl, T2, e3, g3⟩ := pk (g1.trans g2)
  exact ⟨.set n w, T2, ev_run (n := 4) (head (no (by omega) (no (by omega) (ye h (ev_tupL (ev_cons ev_c (ev_cons e2 (ev_cons e3 ev_nil))) (by show 3 <= 1000000; decide)))))), (g1.trans g2).trans g3, hn n hnl, hn w hwl⟩
 ·exact ⟨.reload, S1, ev_run (n := 4) (head (no (by omega) (no (by omega) (no (by omega) (ev_ret (ev_tupL (ev_cons ev_c ev_nil) (by show 1 <= 1000000; decide))))))), g1, trivial⟩
abbrev lnE : DE := dBM "str" fJoin (dC (.str " ")) (dCons (dFz (dlLc (diAny (dVar 0)) (dgName 1) dYes (dCB fStrA (dCons (dVar 1) dNil)) [1])) dNil)
theorem Dd.strA {d : Dd} (h : d.Ok) : ∀ q ∈ d.pq, fStrA [q.1] S = some (.str q.2) := fun q hq => by
 have dg : ∀ {k : Nat}, k < 10 -> fStrA [.int (k : Nat)] S = some (.str (dig k)) := fun {k} hk => by
  show (if k < 10 then some (AV.str (dig k)) else none) = _
  rw [if_pos hk]
 cases d with
 | edit n k =>
  simp only [Dd.pq, core_List_mem_cons_al, core_List_not_mem_nil_al, or_false] at hq
  rcases hq with rfl | rfl | rfl
  ·rfl
  ·rfl
  ·exact dg h.2
 | fire n =>
  simp only [Dd.pq, core_List_mem_cons_al, core_List_not_mem_nil_al, or_false] at hq
  rcases hq with rfl | rfl <;> rfl
 | set n w =>
  simp only [Dd.pq, core_List_mem_cons_al, core_List_not_mem_nil_al, or_false] at hq
  rcases hq with rfl | rfl | rfl <;> rfl
 | reload =>
  simp only [Dd.pq, core_List_mem_cons_al, core_List_not_mem_nil_al, or_false] at hq
  rw [hq]
  rfl
theorem lnE_ev {d : Dd} (h : d.Ok) : lnE [some d.av, none] S = .ok (.str (lineT d.ps)) S := by
 have n3 := d.n3
 have s := (Dd.ok h).sum
 have pl : d.pq.length <= 3 := by have := n3.2; unfold Dd.ps at this; rwa [core_List_length_map_al] at this
 have e : dFz (dlLc (diAny (dVar 0)) (dgName 1) dYes (dCB fStrA (dCons (dVar 1) dNil)) [1]) [some d.av, none] S = .ok (.lst (d.ps.map .str)) S := by
  unfold Dd.ps
  rw [core_List_map_map_al]
  refine ev_fz (ev_lc (S1 := S) (its := ⟨d.pq.map (·.1), fun _ => true⟩) (ev_any (x := d.av) (ev_vrx rfl) rfl) (by show (d.pq.map (·.1)).length <= 1000000; rw [core_List_length_map_al]; omega) ?_)
  exact lcL_gen (α := AV × Str) (gd := fun _ => true) (dg := dgName 1) (de := dCB fStrA (dCons (dVar 1) dNil)) (ρ := [some d.av, none]) (S := S) (fun q => q.1) (fun q => AV.str q.2) rfl d.pq fun q hq => ⟨[some d.av, some q.1], rfl, ev_cb (f := fStrA) (xs := [q.1]) (ev_cons (ev_vrx (i := 1) (x := q.1) rfl) ev_nil) (Dd.strA h q hq)⟩
 exact ev_join e rfl (txts_str _) pl_sp (by decide) (Dd.ok h).pl (by omega)
theorem law_line_ev {d : Dd} (h : d.Ok) : F__law_line [d.av] S = .ok (.str (lineT d.ps)) S := ev_run (n := 2) (ev_ret (lnE_ev h))
theorem write_deed_ev {d : Dd} (h : d.Ok) : F_write_deed [d.av] S = .ok (.str (lineT d.ps)) S := ev_run (n := 2) (ev_ret (lnE_ev h))
theorem cutS_take {z : Str} {i : Nat} : tl (cutS z none (some (i : Int))) = (tl z).take i := by
 show ((tl z).drop (HT.sIx z.length 0 none)).take (HT.sIx z.length z.length (some (i : Int)) - HT.sIx z.length 0 none) = _
 rw [HT.sIx_nat, HT.sIx_none, List.drop_zero, Nat.sub_zero]
 have := len_tl z
 by_cases h : i <= z.length
 ·rw [Nat.min_eq_left h]
 ·rw [Nat.min_eq_right (by omega), List.take_of_length_le (by omega), List.take_of_length_le (by omega)]
theorem cutS_drop {z : Str} {i : Nat} : tl (cutS z (some (i : Int)) none) = (tl z).drop i := by
 show ((tl z).drop (HT.sIx z.length 0 (some (i : Int)))).take (HT.sIx z.length z.length none - HT.sIx z.length 0 (some (i : Int))) = _
 rw [HT.sIx_nat, HT.sIx_none]
 have := len_tl z
 by_cases h : i <= z.length
 ·rw [Nat.min_eq_left h, List.take_of_length_le (by rw [List.length_drop]; omega)]
 ·rw [Nat.min_eq_right (by omega), Nat.sub_self, List.take_zero, List.drop_of_length_le (by omega)]
theorem lineT_tl (ys : List Str) : tl (lineT ys) = joinL [32] (ys.map tl) := by
 show tl (Txt.join " " ys) = _
 rw [join_tl, tl_sp]
theorem line_cons {w : Str} {r : List Str} (hr : r ≠ []) : tl (lineT (w :: r)) = tl w ++ 32 :: tl (lineT r) := by
 obtain ⟨x, r, rfl⟩ := List.exists_cons_of_ne_nil hr
 rw [lineT_tl, lineT_tl]
 rfl
theorem line_one (w : Str) : tl (lineT [w]) = tl w := by
 rw [lineT_tl]
 rfl
theorem line_snoc {x : Str} : ∀ {ys : List Str}, ys ≠ [] -> tl (lineT (ys ++ [x])) = tl (lineT ys) ++ 32 :: tl x
 | [], h => absurd rfl h
 | [w], _ => by
  show tl (lineT (w :: [x])) = _
  rw [line_cons (by simp), line_one, line_one]
 | w :: v :: r, _ => by
  show tl (lineT (w :: ((v :: r) ++ [x]))) = _
  rw [line_cons (by simp), line_snoc (ys := v :: r) (by simp), line_cons (w := w) (r := v :: r) (by simp), core_List_append_assoc_al]
  rfl
theorem rdA_len {w : Str} {r : List Str} (h : ∀ ks, kindsL.lookup w = some ks -> ks.length ≠ r.length) : isNonA (rdA (w :: r)) = true := by
 cases hk : kindsL.lookup w with
 | none => rw [rdA_none hk]; rfl
 | some ks => rw [rdA_some hk, if_neg (h ks hk)]; rfl
theorem Dd.hd (d : Dd) : ∃ w r ks, d.ps = w :: r /\ kindsL.lookup w = some ks /\ ks.length = r.length := by
 cases d with
 | edit n k => exact ⟨"edit", [n, dig k], Q9.i, rfl, rfl, rfl⟩
 | fire n => exact ⟨"fire", [n], ["name"], rfl, rfl, rfl⟩
 | set n w => exact ⟨"set", [n, w], Q9.j, rfl, rfl, rfl⟩
 | reload => exact ⟨"reload", [], [], rfl, rfl, rfl⟩
theorem pt_e : PtOk "" := ptok_c (by decide) (by decide)
theorem wr_front (d : Dd) : isNonA (rdA ("" :: d.ps)) = true := by rw [rdA_none (by decide)]; rfl
theorem wr_more {d : Dd} {x : Str} : isNonA (rdA (d.ps ++ [x])) = true := by
 obtain ⟨w, r, ks, e, hk, hl⟩ := d.hd
 rw [e]
 refine rdA_len (r := r ++ [x]) fun ks' hk' => ?_
 rw [hk] at hk'
 injection hk' with hk'
 rw [core_List_length_append_al, <- hk', hl]
 show r.length ≠ r.length + 1
 omega
theorem wr_mid {w : Str} {r ks : List Str} (hk : kindsL.lookup w = some ks) (hl : ks.length = r.length) : isNonA (rdA (w :: "" :: r)) = true := rdA_len fun ks' hk' => by
 rw [hk] at hk'
 injection hk' with hk'
 rw [<- hk', hl, core_List_length_cons_al]
 omega
theorem ps_front {d : Dd} (h : d.Ok) : PsOk ("" :: d.ps) := psok_of (by simp) (by have := d.n3.2; rw [core_List_length_cons_al]; omega) fun z hz => (core_List_mem_cons_al.mp hz).elim (fun e => e ▸ pt_e) (Dd.pt h z)
theorem ps_more {d : Dd} {x : Str} (h : d.Ok) (hx : PtOk x) : PsOk (d.ps ++ [x]) := psok_of (by simp) (by have := d.n3.2; rw [core_List_length_append_al]; show _ + 1 <= 6; omega) fun z hz => (core_List_mem_append_al.mp hz).elim (Dd.pt h z) fun e => by rw [core_List_mem_singleton_al.mp e]; exact hx
theorem pre1 (c : Nat) (l : List Nat) : pre [32] (c :: l) = true ↔ c = 32 := by
 show (([c] : List Nat) == [32]) = true ↔ _
 rw [beq_iff_eq]
 constructor
 ·intro h; injection h
 ·intro h; rw [h]
theorem find_line {w : Str} {r : List Str} (hw : 32 ∉ tl w) : Txt.find (lineT (w :: r)) " " = (if r = [] then (-1 : Int) else (((tl w).length : Nat) : Int)) := by
 have hy : tl (" " : Str) ≠ [] := by rw [tl_sp]; simp
 have no : ∀ {l : List Nat} {i : Nat}, 32 ∉ l -> pre [32] (l.drop i) = true -> False := fun {l i} hl hp => by
  cases e : l.drop i with
  | nil => rw [e] at hp; cases hp
  | cons c m =>
   rw [e] at hp
   have := (pre1 c m).mp hp
   exact hl (this ▸ List.mem_of_mem_drop (by rw [e]; exact core_List_mem_cons_self_al))
 rcases PyProof.Rows.find_whole (lineT (w :: r)) " " with ⟨e, hn⟩ | ⟨i, e, hi, hn⟩
 ·by_cases hr : r = []
  ·rw [if_pos hr]; exact e
  ·have := hn (tl w).length
   rw [at_iff hy, tl_sp, line_cons hr, List.drop_left] at this
   exact absurd ((pre1 32 _).mpr rfl) this
 ·rw [at_iff hy, tl_sp] at hi
  by_cases hr : r = []
  ·subst hr
   rw [line_one] at hi
   exact absurd hi fun h => no hw h
  ·rw [if_neg hr, e]
   rw [line_cons hr] at hi
   have h1 : ¬ i < (tl w).length := fun hlt => by
    rw [List.drop_append_of_le_length (by omega)] at hi
    cases e2 : (tl w).drop i with
    | nil =>
     have := List.drop_eq_nil_iff.mp e2
     omega
    | cons c m =>
     rw [e2, List.cons_append] at hi
     have := (pre1 c _).mp hi
     exact hw (this ▸ List.mem_of_mem_drop (by rw [e2]; exact core_List_mem_cons_self_al))
   have h2 : ¬ (tl w).length < i := fun hlt => by
    have := hn _ hlt
    rw [at_iff hy, tl_sp, line_cons hr, List.drop_left] at this
    exact this ((pre1 32 _).mpr rfl)
   congr 1
   omega
end
section
variable {S S1 T : Store} {ρ : Dl.Env} {p q : Nat}
theorem ev_slS {da db : DE} {z : Str} {i : Nat} (ha : da ρ S = .ok (.str z) S) (hb : db ρ S = .ok (.int (i : Nat)) S) : dSl da dNo (dSo db) ρ S = .ok (.str (cutS z none (some (i : Int)))) S := by
 unfold dSl dNo dSo
 rw [ha, Res.bind_ok, Res.bind_ok, hb, Res.bind_ok]
 rfl
theorem ev_slF {da db : DE} {z : Str} {i : Nat} (ha : da ρ S = .ok (.str z) S) (hb : db ρ S = .ok (.int (i : Nat)) S) : dSl da (dSo db) dNo ρ S = .ok (.str (cutS z (some (i : Int)) none)) S := by
 unfold dSl dNo dSo
 rw [ha, Res.bind_ok, hb]
 rfl
theorem cut_len1 {z : Str} {i : Nat} : (cutS z none (some (i : Int))).length <= z.length := by
 rw [len_tl, cutS_take, len_tl z, List.length_take]
 omega
theorem cut_len2 {z : Str} {i : Nat} : (cutS z (some (i : Int)) none).length <= z.length := by
 rw [len_tl, cutS_drop, len_tl z, List.length_drop]
 omega
def WRL : List (List Str) := [[""], ["edit", "a"], ["edit", "a", "10"], ["edit", "a", "-1"], ["edit", "a", "b"], ["edit", "A", "0"], ["fire"], ["fire", "a1"], ["fire", "abcdefghi"], ["set", "a"], ["set", "a", "B"], ["set", "a", "0"], ["undo"], ["state"], ["reload", "reload"], ["fire", "a", "b"], ["edit", "", "0"], ["edit", "a", "00"]]
def WRS : List Str := ["", "edit a", "edit a 10", "edit a -1", "edit a b", "edit A 0", "fire", "fire a1", "fire abcdefghi", "set a", "set a B", "set a 0", "undo", "state", "reload reload", "fire a b", "edit  0", "edit a 00"]
theorem wrs_eq : WRS = WRL.map lineT := by decide +kernel
theorem wrl_no : ∀ ys ∈ WRL, isNonA (rdA ys) = true := by decide +kernel
theorem wrl_ok : ∀ ys ∈ WRL, PsOk ys := fun ys hy => by
 have a : ∀ ys ∈ WRL, ys ≠ [] /\ ys.length <= 6 /\ ∀ z ∈ ys, ((tl z).all fun c => decide (c < 128) && (decide (c ≠ 32) && decide (c ≠ 10))) = true /\ z.length <= 10 := by decide +kernel
 obtain ⟨h1, h2, h3⟩ := a ys hy
 exact psok_of h1 h2 fun z hz => ptok_c (h3 z hz).1 (h3 z hz).2
theorem up1 : Txt.upper "e" = "E" /\ Txt.upper "f" = "F" /\ Txt.upper "s" = "S" /\ Txt.upper "r" = "R" := by decide +kernel
theorem line_app {r : List Str} : ∃ X, ∀ w, tl (lineT (w :: r)) = tl w ++ X := by
 by_cases h : r = []
 ·subst h
  exact ⟨[], fun w => by rw [line_one, core_List_append_nil_al]⟩
 ·exact ⟨_, fun w => line_cons h⟩
theorem cap_of {w W c C : Str} {r : List Str} {a b : Nat} {m : List Nat} (hw : tl w = a :: m) (hW : tl W = b :: m) (hc : tl c = [a]) (hC : tl C = [b]) : cutS (lineT (w :: r)) none (some (1 : Nat)) = c /\ C ++ cutS (lineT (w :: r)) (some (1 : Nat)) none = lineT (W :: r) := by
 obtain ⟨X, hX⟩ := line_app (r := r)
 refine ⟨ext_tl ?_, ext_tl ?_⟩
 ·rw [cutS_take, hX, hw, hc]
  rfl
 ·rw [tl_append, cutS_drop, hX, hX, hw, hW, hC]
  rfl
theorem wrong_line_ev {d : Dd} (h : d.Ok) (hP : Pool S p) : ∃ ys S', F__law_wrong_line [.ref p, d.av] S = .ok (.str (lineT ys)) S' /\ Go p S S' /\ PsOk ys /\ isNonA (rdA ys) = true := by
 let z : Option AV := none
 have n3 := d.n3
 have hne : d.ps ≠ [] := fun e => by rw [e] at n3; exact absurd n3.1 (by decide)
 have L66 := (Dd.ok h).len
 obtain ⟨k, S1, e1, k0, k1, g1⟩ := draw_ev (m := 4) (by decide) (by decide) hP
 let L := AV.str (lineT d.ps)
 let K := some (AV.int k)
 let ρ := fun (o2 o3 o4 : Option AV) => ([some (.ref p), some d.av, o2, o3, o4] : Dl.Env)
 have head : ∀ {ds : DS} {res : RS}, ds (ρ (some L) K z) S1 = res -> dSeq (dAsg (dCall 1 F__law_line (dCons (dVar 1) dNil)) (dgName 2)) (dSeq (dAsg (dCall 2 F__law_draw (dCons (dVar 0) (dCons (dC (.int 4)) dNil))) (dgName 3)) ds) (ρ z z z) S = res := fun {ds res} hd => (ev_seq (ρ1 := ρ (some L) z z) (S1 := S) (ev_asg (ev_call (avs := [d.av]) (ev_cons (ev_vrx rfl) ev_nil) rfl (law_line_ev h)) rfl)).trans ((ev_seq (ρ1 := ρ (some L) K z) (S1 := S1) (ev_asg (ev_call (avs := [.ref p, .int 4]) (ev_cons (ev_vrx rfl) (ev_cons ev_c ev_nil)) rfl e1) rfl)).trans hd)
 have tst : ∀ j : Int, dTest (dOp (fEq false) (dVar 3) (dC (.int j))) (ρ (some L) K z) S1 = .ok (decide (k = j)) S1 := fun j => eq_int j (ev_vrx rfl)
 have no : ∀ {j : Int} {a d' : DS} {res : RS}, k ≠ j -> d' (ρ (some L) K z) S1 = res -> dSeq (dIfS (dTest (dOp (fEq false) (dVar 3) (dC (.int j)))) a dNext) d' (ρ (some L) K z) S1 = res := fun {j a d' res} hn hd => (ev_seq ((ev_iff ((tst j).trans (by rw [core_decide_eq_false_al hn]))).trans rfl)).trans hd
 have ye : ∀ {j : Int} {a d' : DS} {x : AV} {T : Store}, k = j -> a (ρ (some L) K z) S1 = .go (.rt x) T -> dSeq (dIfS (dTest (dOp (fEq false) (dVar 3) (dC (.int j)))) a dNext) d' (ρ (some L) K z) S1 = .go (.rt x) T := fun {j a d' x T} hn hd => ev_seqr' ((ev_ift ((tst j).trans (by rw [core_decide_eq_true_al hn]))).trans hd)
 obtain hk | hk | hk | hk : k = 0 ∨ k = 1 ∨ k = 2 ∨ k = 3 := by omega
 ·obtain ⟨w, r, ks, eps, hl, hlen⟩ := d.hd
  have hw : 32 ∉ tl w := (Dd.pt h w (by rw [eps]; exact core_List_mem_cons_self_al)).sp
  have fl := find_line (w := w) (r := r) hw
  rw [<- eps] at fl
  obtain ⟨f, hf⟩ : ∃ f : Nat, Txt.find (lineT d.ps) " " + 1 = (f : Int) := by
   by_cases hr : r = []
   ·rw [fl, if_pos hr]; exact ⟨0, rfl⟩
   ·rw [fl, if_neg hr]; exact ⟨(tl w).length + 1, by omega⟩
  obtain ⟨y, hy, S2, e2, g2⟩ := pick_lst (xs := [.int 0, .int ((lineT d.ps).length : Nat), .int (f : Nat)]) g1.pool (by show 0 < 3; decide) (by show (3 : Int) < 1073741824; decide)
  have key : ∃ (i : Nat) (ys : List Str), y = .int (i : Nat) /\ (tl (lineT d.ps)).take i ++ 32 :: (tl (lineT d.ps)).drop i = tl (lineT ys) /\ PsOk ys /\ isNonA (rdA ys) = true := by
   have front : (tl (lineT d.ps)).take 0 ++ 32 :: (tl (lineT d.ps)).drop 0 = tl (lineT ("" :: d.ps)) := by
    rw [line_cons hne]
    rfl
   simp only [core_List_mem_cons_al, core_List_not_mem_nil_al, or_false] at hy
   rcases hy with rfl | rfl | rfl
   ·exact ⟨0, _, rfl, front, ps_front h, wr_front d⟩
   ·refine ⟨_, d.ps ++ [("" : Str)], rfl, ?_, ps_more h pt_e, wr_more⟩
    rw [line_snoc hne, len_tl, List.take_length, List.drop_length]
    rfl
   ·by_cases hr : r = []
    ·rw [fl, if_pos hr] at hf
     have : f = 0 := by omega
     subst this
     exact ⟨0, _, rfl, front, ps_front h, wr_front d⟩
    ·rw [fl, if_neg hr] at hf
     have : f = (tl w).length + 1 := by omega
     subst this
     refine ⟨_, w :: "" :: r, rfl, ?_, psok_of (by simp) (by rw [eps] at n3; simp only [core_List_length_cons_al] at n3 ⊢; omega) fun v hv => ?_, wr_mid hl hlen⟩
     ·rw [eps, line_cons hr, line_cons (w := w) (r := "" :: r) (by simp), line_cons (w := "") hr]
      have t1 : (tl w ++ 32 :: tl (lineT r)).take ((tl w).length + 1) = tl w ++ [32] := by
       rw [List.take_append, List.take_of_length_le (by omega), Nat.add_sub_cancel_left]
       rfl
      have t2 : (tl w ++ 32 :: tl (lineT r)).drop ((tl w).length + 1) = tl (lineT r) := by
       rw [List.drop_append, List.drop_of_length_le (by omega), Nat.add_sub_cancel_left]
       rfl
      rw [t1, t2, core_List_append_assoc_al]
      rfl
     ·rcases core_List_mem_cons_al.mp hv with rfl | hv
      ·exact Dd.pt h _ (by rw [eps]; exact core_List_mem_cons_self_al)
      ·rcases core_List_mem_cons_al.mp hv with rfl | hv
       ·exact pt_e
       ·exact Dd.pt h v (by rw [eps]; exact core_List_mem_cons_of_mem_al _ hv)
  obtain ⟨i, ys, ey, et, ok, bad⟩ := key
  subst ey
  refine ⟨ys, S2, ev_run (n := 5) (head (ye hk ?_)), g1.trans g2, ok, bad⟩
  refine (ev_seq (ρ1 := ρ (some L) K (some (.int (i : Nat)))) (S1 := S2) (ev_asg (ev_call (avs := [.ref p, .lst [.int 0, .int ((lineT d.ps).length : Nat), .int (f : Nat)]]) (ev_cons (ev_vrx rfl) (ev_cons (ev_lst (ev_cons ev_c (ev_cons (ev_cb (xs := [L]) (ev_cons (ev_vrx rfl) ev_nil) rfl) (ev_cons (ev_op (x := .int (Txt.find (lineT d.ps) " ")) (y := .int 1) ?_ ev_c (by show some (AV.int _) = _; rw [hf])) ev_nil))) (by show 3 <= 1000000; decide)) ev_nil)) rfl e2) rfl)).trans ?_
  ·unfold dBM
   rw [ev_vrx (i := 2) (x := L) rfl, Res.bind_ok]
   rfl
  ·have ef : lineT ys = cutS (lineT d.ps) none (some (i : Int)) ++ " " ++ cutS (lineT d.ps) (some (i : Int)) none := ext_tl (by
    rw [tl_append, tl_append, cutS_take, cutS_drop, <- et, tl_sp, core_List_append_assoc_al]
    rfl)
   rw [ef]
   have a := cut_len1 (z := lineT d.ps) (i := i)
   have b := cut_len2 (z := lineT d.ps) (i := i)
   have c : (" " : Str).length = 1 := by decide
   refine ev_ret (ev_op (x := .str (cutS (lineT d.ps) none (some (i : Int)) ++ " ")) (ev_op (ev_slS (ev_vrx rfl) (ev_vrx rfl)) ev_c (fAdd_str (by rw [c]; omega))) (ev_slF (ev_vrx rfl) (ev_vrx rfl)) (fAdd_str ?_))
   rw [len_tl, tl_append, core_List_length_append_al, <- len_tl, <- len_tl, c]
   omega
 ·obtain ⟨y, hy, S2, e2, g2⟩ := pick_strs (l := ["a", "0", "Q", ""]) g1.pool (by decide) (by decide)
  have py : PtOk y := by
   simp only [core_List_mem_cons_al, core_List_not_mem_nil_al, or_false] at hy
   rcases hy with rfl | rfl | rfl | rfl <;> exact ptok_c (by decide) (by decide)
  refine ⟨d.ps ++ [y], S2, ev_run (n := 5) (head (no (by omega) (ye hk ?_))), g1.trans g2, ps_more h py, wr_more⟩
  have ef : lineT (d.ps ++ [y]) = lineT d.ps ++ " " ++ y := ext_tl (by
   rw [tl_append, tl_append, line_snoc hne, tl_sp, core_List_append_assoc_al]
   rfl)
  rw [ef]
  have c : (" " : Str).length = 1 := by decide
  have yl := py.z
  refine ev_ret (ev_op (x := .str (lineT d.ps ++ " ")) (y := .str y) (ev_op (x := L) (y := .str " ") (ev_vrx rfl) ev_c (fAdd_str (by rw [c]; omega))) (ev_call (avs := [.ref p, .lst ((["a", "0", "Q", ""] : List Str).map .str)]) (ev_cons (ev_vrx rfl) (ev_cons (ev_lst (ev_cons ev_c (ev_cons ev_c (ev_cons ev_c (ev_cons ev_c ev_nil)))) (by show 4 <= 1000000; decide)) ev_nil)) rfl e2) (fAdd_str ?_))
  rw [len_tl, tl_append, core_List_length_append_al, <- len_tl, <- len_tl, c]
  omega
 ·have key : ∃ c C ys, cutS (lineT d.ps) none (some (1 : Nat)) = c /\ Txt.upper c = C /\ sokB C = true /\ C.length = 1 /\ C ++ cutS (lineT d.ps) (some (1 : Nat)) none = lineT ys /\ PsOk ys /\ isNonA (rdA ys) = true := by
   have pk : ∀ {w W c C : Str} {r : List Str} {a b : Nat} {m : List Nat}, d.ps = w :: r -> tl w = a :: m -> tl W = b :: m -> tl c = [a] -> tl C = [b] -> Txt.upper c = C -> sokB C = true -> C.length = 1 -> PtOk W -> kindsL.lookup W = none -> ∃ c C ys, cutS (lineT d.ps) none (some (1 : Nat)) = c /\ Txt.upper c = C /\ sokB C = true /\ C.length = 1 /\ C ++ cutS (lineT d.ps) (some (1 : Nat)) none = lineT ys /\ PsOk ys /\ isNonA (rdA ys) = true := fun {w W c C r a b m} e h1 h2 h3 h4 h5 h6 h7 h8 h9 => by
    obtain ⟨q1, q2⟩ := cap_of (r := r) h1 h2 h3 h4
    refine ⟨c, C, W :: r, by rw [e]; exact q1, h5, h6, h7, by rw [e]; exact q2, psok_of (by simp) (by rw [e] at n3; simp only [core_List_length_cons_al] at n3 ⊢; omega) fun v hv => ?_, by rw [rdA_none h9]; rfl⟩
    rcases core_List_mem_cons_al.mp hv with rfl | hv
    ·exact h8
    ·exact Dd.pt h v (by rw [e]; exact core_List_mem_cons_of_mem_al _ hv)
   cases d with
   | edit n k => exact pk (w := "edit") (W := "Edit") (c := "e") (C := "E") (a := 101) (b := 69) (m := [100, 105, 116]) rfl (by decide) (by decide) (by decide) (by decide) up1.1 (by decide +kernel) (by decide) (ptok_c (by decide) (by decide)) (by decide)
   | fire n => exact pk (w := "fire") (W := "Fire") (c := "f") (C := "F") (a := 102) (b := 70) (m := [105, 114, 101]) rfl (by decide) (by decide) (by decide) (by decide) up1.2.1 (by decide +kernel) (by decide) (ptok_c (by decide) (by decide)) (by decide)
   | set n w => exact pk (w := "set") (W := "Set") (c := "s") (C := "S") (a := 115) (b := 83) (m := [101, 116]) rfl (by decide) (by decide) (by decide) (by decide) up1.2.2.1 (by decide +kernel) (by decide) (ptok_c (by decide) (by decide)) (by decide)
   | reload => exact pk (w := "reload") (W := "Reload") (c := "r") (C := "R") (a := 114) (b := 82) (m := [101, 108, 111, 97, 100]) rfl (by decide) (by decide) (by decide) (by decide) up1.2.2.2 (by decide +kernel) (by decide) (ptok_c (by decide) (by decide)) (by decide)
  obtain ⟨c, C, ys, q1, q2, q3, q4, q5, ok, bad⟩ := key
  refine ⟨ys, S1, ev_run (n := 5) (head (no (by omega) (no (by omega) (ye hk ?_)))), g1, ok, bad⟩
  have b := cut_len2 (z := lineT d.ps) (i := 1)
  rw [<- q5]
  refine ev_ret (ev_op (x := .str C) (y := .str (cutS (lineT d.ps) (some ((1 : Nat) : Int)) none)) ?_ (ev_slF (i := 1) (ev_vrx rfl) ev_c) (fAdd_str (by omega)))
  unfold dBM
  rw [show dSl (dVar 2) dNo (dSo (dC (.int 1))) (ρ (some L) K z) S1 = .ok (.str (cutS (lineT d.ps) none (some ((1 : Nat) : Int)))) S1 from ev_slS (i := 1) (z := lineT d.ps) (ev_vrx rfl) ev_c, Res.bind_ok, q1, show tyA "str" (.str c) S1 = true from rfl, if_pos rfl]
  show (match (if sokB (Txt.upper c) = true then some (AV.str (Txt.upper c), S1) else none) with
   | some (y, S3) => Res.ok y S3
   | none => Res.bad) = _
  rw [q2, if_pos q3]
 ·obtain ⟨y, hy, S2, e2, g2⟩ := pick_strs (l := WRS) g1.pool (by decide) (by decide)
  rw [wrs_eq] at hy
  obtain ⟨ys, hys, rfl⟩ := core_List_mem_map_al.mp hy
  refine ⟨ys, S2, ev_run (n := 5) (head (no (by omega) (no (by omega) (no (by omega) (ev_ret (ev_call (avs := [.ref p, .lst (WRS.map .str)]) (ev_cons (ev_vrx rfl) (ev_cons (ev_lst (xs := WRS.map .str) rfl (by show 18 <= 1000000; decide)) ev_nil)) rfl e2)))))), g1.trans g2, wrl_ok ys hys, wrl_no ys hys⟩
end
section
variable {S S1 T : Store} {ρ : Dl.Env} {p q : Nat}
theorem lds_ev {di : DI} {l : List Str} {n i : Nat} {m : Int} {de : DE} (hP : Pool T p) (hq : q ≠ p) (hs : Dl.stL T q = some (l.map .str)) (hl0 : 0 < l.length) (hl1 : l.length <= 100) (hnm : ∀ z ∈ l, IsName z) (m0 : 0 < m) (m1 : m <= 10) (hi : di ρ S = .ok ⟨rngL 0 n, fun _ => true⟩ T) (hn : n <= 100)
  (he : ∀ (x : AV) (T : Store) (d : AV) (T' : Store), F__law_any_deed [.ref p, .ref q, .int m] T = .ok d T' -> ∃ ρ1, dgName i x (wipeE ρ [i]) = some ρ1 /\ de ρ1 T = .ok d T') : ∃ (ds : List Dd) (T' : Store), dFz (dlLc di (dgName i) dYes de [i]) ρ S = .ok (.lst (ds.map Dd.av)) T' /\ Go p T T' /\ (∀ d ∈ ds, d.Ok) /\ ds.length = n := by
 obtain ⟨ys, T', e, gT, hl, hat⟩ := lcL_each (gd := fun _ => true) (dg := dgName i) (de := de) (ρ := wipeE ρ [i]) (fun U => Go p T U) (fun _ y => ∃ d : Dd, y = d.av /\ d.Ok) (fun _ _ => rfl) (rngL 0 n) T (Go.rfl' hP) (fun x hx U gU => by
  obtain ⟨d, U', e, go, hd⟩ := any_deed_ev (m := m) gU.pool hq (gU.stL hs hq) hnm hl0 hl1 m0 m1
  obtain ⟨ρ1, e1, e2⟩ := he x U d.av U' e
  exact ⟨ρ1, d.av, U', e1, e2, ⟨d, rfl, hd⟩, gU.trans go⟩)
 have all : ∀ y ∈ ys, ∃ d : Dd, y = d.av /\ d.Ok := fun y hy => by
  obtain ⟨k, hk⟩ := core_List_mem_iff_getElem__al.mp hy
  have hlt := (core_List_getElem__eq_some_iff_al.mp hk).1
  rw [hl] at hlt
  exact hat k _ y (core_List_getElem__eq_getElem_al hlt) hk
 have ex : ∀ ys : List AV, (∀ y ∈ ys, ∃ d : Dd, y = d.av /\ d.Ok) -> ∃ ds : List Dd, ys = ds.map Dd.av /\ ∀ d ∈ ds, d.Ok := fun ys => by
  induction ys with
  | nil => exact fun _ => ⟨[], rfl, fun d hd => by cases hd⟩
  | cons y ys ih =>
   intro h
   obtain ⟨d, rfl, hd⟩ := h y core_List_mem_cons_self_al
   obtain ⟨ds, rfl, hds⟩ := ih fun z hz => h z (core_List_mem_cons_of_mem_al _ hz)
   exact ⟨d :: ds, rfl, fun x hx => (core_List_mem_cons_al.mp hx).elim (fun e => e ▸ hd) (hds x)⟩
 obtain ⟨ds, rfl, hds⟩ := ex ys all
 rw [core_List_length_map_al, rngL_len0] at hl
 exact ⟨ds, T', ev_fz (ev_lc hi (by show (rngL 0 n).length <= 1000000; rw [rngL_len0]; omega) e), gT, hds, hl⟩
abbrev PS (D : List Dd) : List (List Str) := D.map Dd.ps
theorem ls_ok {D : List Dd} (h : ∀ d ∈ D, d.Ok) (hl : D.length <= 30) : LsOk (PS D) := ⟨by rw [core_List_length_map_al]; omega, fun ys hy => by
 obtain ⟨d, hd, rfl⟩ := core_List_mem_map_al.mp hy
 exact Dd.ok (h d hd)⟩
theorem rd_all {D : List Dd} (h : ∀ d ∈ D, d.Ok) : (PS D).map rdA = D.map Dd.av := by
 rw [core_List_map_map_al]
 exact List.map_congr_left fun d hd => Dd.rd (h d hd)
theorem nn_all {D : List Dd} (h : ∀ d ∈ D, d.Ok) : ∀ ys ∈ PS D, isNonA (rdA ys) = false := fun ys hy => by
 obtain ⟨d, hd, rfl⟩ := core_List_mem_map_al.mp hy
 exact Dd.nn (h d hd)
theorem textT_tl (L : List (List Str)) : tl (textT L) = joinL [10] ((L.map lineT).map tl) := by
 show tl (Txt.join "\n" (L.map lineT)) = _
 rw [join_tl, tl_nl]
theorem text_two {a b : List Str} {R : List (List Str)} : textT (a :: b :: R) ≠ "" := fun h => by
 have := congrArg tl h
 rw [textT_tl] at this
 have : tl (lineT a) ++ ([10] ++ joinL [10] ((lineT b :: R.map lineT).map tl)) = [] := this
 have := (List.append_eq_nil_iff.mp this).2
 cases this
theorem text_one (a : List Str) : textT [a] = lineT a := ext_tl (by rw [textT_tl]; rfl)
theorem Dd.line_ne (d : Dd) : lineT d.ps ≠ "" := fun h => by
 obtain ⟨w, r, ks, e, hk, _⟩ := d.hd
 obtain ⟨X, hX⟩ := line_app (r := r)
 have := congrArg tl h
 rw [e, hX] at this
 have hw := (List.append_eq_nil_iff.mp (show tl w ++ X = [] from this)).1
 have : w = "" := ext_tl (hw.trans rfl)
 rw [this] at hk
 have e0 : kindsL.lookup ("" : Str) = none := by decide
 rw [e0] at hk
 cases hk
theorem text_ne {D : List Dd} (hne : D ≠ []) : textT (PS D) ≠ "" := by
 cases D with
 | nil => exact absurd rfl hne
 | cons d D =>
  cases D with
  | nil => rw [show PS [d] = [d.ps] from rfl, text_one]; exact d.line_ne
  | cons d2 D => exact text_two
theorem okV_dd {d : Dd} : OkV 1 d.av := by
 refine okV_tup (n := 0) (by cases d <;> exact (show _ <= 1000 by simp [Dd.pq])) fun x hx => ?_
 cases d <;> simp only [Dd.pq, core_List_map_cons_al, List.map_nil, core_List_mem_cons_al, core_List_not_mem_nil_al, or_false] at hx
 ·rcases hx with rfl | rfl | rfl
  ·exact okV_str _ _
  ·exact okV_str _ _
  ·exact okV_int _ _
 ·rcases hx with rfl | rfl <;> exact okV_str _ _
 ·rcases hx with rfl | rfl | rfl <;> exact okV_str _ _
 ·rw [hx]; exact okV_str _ _
theorem okV_D {D : List Dd} {b : Bool} (hl : D.length <= 1000) : OkV 2 (.tup b (D.map Dd.av)) := okV_mapT hl fun d _ => okV_dd
theorem read_D {D : List Dd} (h : ∀ d ∈ D, d.Ok) (hl : D.length <= 30) : ∃ r T, F__law_read [.str (textT (PS D))] S = .ok r T /\ (T = S ∨ ∃ o, T = S ++ [o]) /\ ∀ U : Store, Fsame 12 [r, .tup false [.str "deeds", .tup false (D.map Dd.av)]] U = .ok (.bl true) U := by
 by_cases hne : D = []
 ·subst hne
  exact ⟨_, S, lread_none, .inl rfl, fun U => by rfl⟩
 ·have e := lread_good (S := S) (ls_ok h hl) (fun e => hne (List.map_eq_nil_iff.mp e)) (text_ne hne) (nn_all h)
  rw [rd_all h] at e
  exact ⟨_, _, e, .inr ⟨_, rfl⟩, fun U => same_told (m := 2) (okV_D (by omega)) (by decide)⟩
theorem same_line {k : Int} {U : Store} : Fsame 12 [.tup false [.str "line", .int k], .tup false [.str "line", .int k]] U = .ok (.bl true) U := same_told (m := 0) (okV_int 0 k) (by decide)
theorem lines_lc {D : List Dd} {x : AV} {fd : FD} {i c : Nat} (h : ∀ d ∈ D, d.Ok) (hl : D.length <= 30) (hx : ρ[i]? = some (some x)) (hi : itsOf S x = some ⟨D.map Dd.av, fun _ => true⟩) (hf : ∀ (d : Dd) (T : Store), d.Ok -> fd [d.av] T = .ok (.str (lineT d.ps)) T) (hg : ∀ y, ∃ ρ1, dgName c y (wipeE ρ [c]) = some ρ1 /\ ρ1[c]? = some (some y)) : dlLc (diAny (dVar i)) (dgName c) dYes (dCall 1 fd (dCons (dVar c) dNil)) [c] ρ S = .ok (((PS D).map lineT).map .str) S := by
 rw [core_List_map_map_al, core_List_map_map_al]
 refine ev_lc (S1 := S) (its := ⟨D.map Dd.av, fun _ => true⟩) (ev_any (x := x) (ev_vrx hx) hi) (by show (D.map Dd.av).length <= 1000000; rw [core_List_length_map_al]; omega) ?_
 exact lcL_gen (α := Dd) (gd := fun _ => true) (dg := dgName c) (de := dCall 1 fd (dCons (dVar c) dNil)) (ρ := wipeE ρ [c]) (S := S) Dd.av (fun d => AV.str (lineT d.ps)) rfl D fun d hd => by
  obtain ⟨ρ1, h1, h2⟩ := hg d.av
  exact ⟨ρ1, h1, ev_call (avs := [d.av]) (ev_cons (ev_vrx h2) ev_nil) rfl (hf d S (h d hd))⟩
theorem join_nl {L : List (List Str)} {da : DE} {y : AV} (h : LsOk L) (hd : da ρ S = .ok y S1) (hs : seqA S1 y = some ((L.map lineT).map .str)) : dBM "str" fJoin (dC (.str "\n")) (dCons da dNil) ρ S = .ok (.str (textT L)) S1 := ev_join hd hs (txts_str _) pl_nl (by decide) (fun z hz => by
 obtain ⟨ys, hy, rfl⟩ := core_List_mem_map_al.mp hz
 exact (h.ok ys hy).lpl) (by have := h.sum; have := h.n; rw [core_List_length_map_al]; omega)
theorem fEq_nself {x : AV} (h : x.isD = true) (hd : depA x <= 60) : fEq true x x S = some (.bl false) := by
 have e := fEq_self (S := S) h hd
 unfold fEq at e ⊢
 cases hx : datOf S x with
 | none => rw [hx] at e; cases e
 | some d =>
  rw [hx] at e
  simp only [Option.bind_some] at e ⊢
  split at e
  next hm =>
   rw [if_pos hm]
   have e1 : PyData.eqv d d = true := by simpa using e
   simp [e1]
  next => cases e
theorem write_ev {D : List Dd} {x : AV} (h : ∀ d ∈ D, d.Ok) (hl : D.length <= 30) (hi : ∀ S, itsOf S x = some ⟨D.map Dd.av, fun _ => true⟩) : F_write_deeds [x] S = .ok (.str (textT (PS D))) S := by
 refine ev_run (n := 2) ?_
 show d_write_deeds [some x, none] S = _
 exact ev_ret (join_nl (ls_ok h hl) (ev_fz (lines_lc (x := x) (i := 0) (c := 1) h hl rfl (hi S) (fun d T hd => write_deed_ev hd) fun y => ⟨_, rfl, rfl⟩)) rfl)
theorem fAdd_big {a b : Str} (h : a.length + b.length <= 100000) : fAdd (.str a) (.str b) S = some (.str (a ++ b)) := if_pos (core_Nat_le_trans_al h (by decide +kernel))
theorem joinL_snoc {s x : List Nat} : ∀ {ps : List (List Nat)}, ps ≠ [] -> joinL s (ps ++ [x]) = joinL s ps ++ (s ++ x)
 | [], h => absurd rfl h
 | [y], _ => rfl
 | y :: w :: r, _ => by
  show y ++ (s ++ joinL s ((w :: r) ++ [x])) = (y ++ (s ++ joinL s (w :: r))) ++ (s ++ x)
  rw [joinL_snoc (ps := w :: r) (by simp), core_List_append_assoc_al, core_List_append_assoc_al]
abbrev EL : List Str := [""]
theorem text_snoc {L : List (List Str)} (h : L ≠ []) : textT (L ++ [EL]) = textT L ++ "\n" := ext_tl (by
 rw [tl_append, textT_tl, textT_tl, core_List_map_append_al, core_List_map_append_al, tl_nl]
 show joinL [10] (((L.map lineT).map tl) ++ [tl (lineT EL)]) = _
 rw [joinL_snoc (fun e => h (List.map_eq_nil_iff.mp (List.map_eq_nil_iff.mp e))), line_one]
 rfl)
theorem text_nl : textT [EL, EL] = "\n" := by decide +kernel
theorem ps_empty : PsOk EL := psok_of (by simp) (by decide) fun z hz => by rw [core_List_mem_singleton_al.mp hz]; exact pt_e
theorem em_no : isNonA (rdA EL) = true := by decide +kernel
theorem read_nl : ∃ S', F__law_read [.str "\n"] S = .ok (.tup false [.str "line", .int 1]) S' := by
 have hL : LsOk ([] ++ EL :: [EL]) := ⟨by show 2 <= 100; decide, fun ys hy => by
  have : ys = EL := by simpa using hy
  rw [this]
  exact ps_empty⟩
 obtain ⟨S', e, _⟩ := lread_bad (S := S) (L := []) (b := EL) (R := [EL]) hL text_two (fun ys hy => by cases hy) em_no
 rw [show textT ([] ++ EL :: [EL]) = "\n" from text_nl] at e
 exact ⟨S', e⟩
theorem ev_slR {da db : DE} {x : AV} {xs : List AV} {i : Nat} (ha : da ρ S = .ok x S) (hx : ∀ lo hi, fSl x lo hi S = some (.lst (cutA xs lo hi))) (hb : db ρ S = .ok (.int (i : Nat)) S) : dSl da dNo (dSo db) ρ S = .ok (.lst (xs.take i)) S := by
 unfold dSl dNo dSo
 rw [ha, Res.bind_ok, Res.bind_ok, hb, Res.bind_ok]
 show ofO (fSl x none (some (i : Int)) S) S = _
 rw [hx, cutA_take]
 rfl
theorem ev_slQ {da db : DE} {x : AV} {xs : List AV} {i : Nat} (ha : da ρ S = .ok x S) (hx : ∀ lo hi, fSl x lo hi S = some (.lst (cutA xs lo hi))) (hb : db ρ S = .ok (.int (i : Nat)) S) : dSl da (dSo db) dNo ρ S = .ok (.lst (xs.drop i)) S := by
 unfold dSl dNo dSo
 rw [ha, Res.bind_ok, hb]
 show (ofO (fSl x (some (i : Int)) none S) S) = _
 rw [hx, cutA_drop]
 rfl
theorem slref {q : Nat} {xs : List AV} (h : Dl.stL S q = some xs) : ∀ lo hi, fSl (.ref q) lo hi S = some (.lst (cutA xs lo hi)) := fun lo hi => by
 show (Dl.stL S q).map (fun xs => AV.lst (cutA xs lo hi)) = _
 rw [h]
 rfl
def B53 (sc : AV) (p : Nat) (o1 o2 o3 o4 o5 o6 o7 o8 o9 o10 : Option AV) : Dl.Env := [some sc, o1, o2, o3, o4, o5, o6, o7, o8, o9, o10, some (.ref p), none, none]
abbrev spB : DS := (dSeq (dAsg (dCall 2 F__law_draw (dCons (dVar 11) (dCons (dCB fLen (dCons (dVar 7) dNil)) dNil))) (dgName 8))
 (dSeq (dAsg (dCall 2 F__law_wrong_line (dCons (dVar 11) (dCons (dOp fIx (dVar 3) (dVar 8)) dNil))) (dgName 9))
 (dSeq (dIfS (dAnd (dTest (dOp (fEq false) (dVar 9) (dC (.str "")))) (dTest (dOp (fEq false) (dCB fLen (dCons (dVar 7) dNil)) (dC (.int 1))))) (dRet (dCall 2 (Fsame 12) (dCons (dCall 1 F__law_read (dCons (dC (.str "\n")) dNil)) (dCons (dTup (dCons (dC (.str "line")) (dCons (dC (.int 1)) dNil))) dNil)))) dNext)
 (dSeq (dIfS (dTest (dOp (fEq false) (dCall 2 F__law_draw (dCons (dVar 11) (dCons (dC (.int 2)) dNil))) (dC (.int 0)))) (dAsg (dTh (dlAddL (dOp fAdd (dSl (dVar 7) dNo (dSo (dVar 8))) (dLst (dCons (dVar 9) dNil))) (dSl (dVar 7) (dSo (dOp fAdd (dVar 8) (dC (.int 1)))) dNo))) (dgName 7)) (dAsg (dTh (dlAddL (dOp fAdd (dSl (dVar 7) dNo (dSo (dVar 8))) (dLst (dCons (dVar 9) dNil))) (dSl (dVar 7) (dSo (dVar 8)) dNo))) (dgName 7)))
 (dSeq (dIfS (dTest (dOp (fEq false) (dCall 2 F__law_draw (dCons (dVar 11) (dCons (dC (.int 3)) dNil))) (dC (.int 0)))) (dDrop (dBM "list" fAppend (dVar 7) (dCons (dC (.str "Q")) dNil))) dNext)
 (dRet (dCall 2 (Fsame 12) (dCons (dCall 1 F__law_read (dCons (dBM "str" fJoin (dC (.str "\n")) (dCons (dVar 7) dNil)) dNil)) (dCons (dTup (dCons (dC (.str "line")) (dCons (dOp fAdd (dVar 8) (dC (.int 1))) dNil))) dNil)))))))))
abbrev LS (L : List (List Str)) : List AV := (L.map lineT).map .str
abbrev QL : List Str := ["Q"]
theorem lineQ : lineT QL = "Q" := by decide +kernel
theorem spB_ev {sc : AV} {W : List Dd} {o1 o2 o4 o5 o6 o8 o9 o10 : Option AV} (hP : Pool S p) (hq : q ≠ p) (hs : Dl.stL S q = some (LS (PS W))) (hW : ∀ d ∈ W, d.Ok) (hl : W.length <= 25) (h0 : 0 < W.length) : ∃ S', spB (B53 sc p o1 o2 (some (.lst (W.map Dd.av))) o4 o5 o6 (some (.ref q)) o8 o9 o10) S = .go (.rt (.bl true)) S' := by
 let W3 := some (AV.lst (W.map Dd.av))
 let Q := some (AV.ref q)
 let E := fun (o7 o8 o9 : Option AV) => B53 sc p o1 o2 W3 o4 o5 o6 o7 o8 o9 o10
 have ll : (LS (PS W)).length = W.length := by rw [core_List_length_map_al, core_List_length_map_al, core_List_length_map_al]
 obtain ⟨a, S1, e1, a0, a1, g1⟩ := draw_ev (m := (W.length : Nat)) (by omega) (by omega) hP
 obtain ⟨a, rfl⟩ : ∃ k : Nat, a = (k : Int) := ⟨a.toNat, by omega⟩
 have hal : a < W.length := by omega
 have hx : W[a]? = some (W[a]'hal) := core_List_getElem__eq_getElem_al hal
 generalize W[a]'hal = d at hx
 obtain ⟨ys, S2, e2, g2, ok, bad⟩ := wrong_line_ev (hW d (core_List_mem_of_getElem__al hx)) g1.pool
 have hs2 := (g1.trans g2).stL hs hq
 let A := some (AV.int (a : Nat))
 let Y := some (AV.str (lineT ys))
 have s1 : ∀ {ds : DS} {res : RS}, ds (E Q A Y) S2 = res -> dSeq (dAsg (dCall 2 F__law_draw (dCons (dVar 11) (dCons (dCB fLen (dCons (dVar 7) dNil)) dNil))) (dgName 8)) (dSeq (dAsg (dCall 2 F__law_wrong_line (dCons (dVar 11) (dCons (dOp fIx (dVar 3) (dVar 8)) dNil))) (dgName 9)) ds) (E Q o8 o9) S = res := fun {ds res} hd => (ev_seq (ρ1 := E Q A o9) (S1 := S1) (ev_asg (ev_call (avs := [.ref p, .int (W.length : Nat)]) (ev_cons (ev_vrx rfl) (ev_cons (ev_cb (xs := [.ref q]) (ev_cons (ev_vrx rfl) ev_nil) (by rw [fLen_lst hs, ll])) ev_nil)) rfl e1) rfl)).trans ((ev_seq (ρ1 := E Q A Y) (S1 := S2) (ev_asg (ev_call (avs := [.ref p, d.av]) (ev_cons (ev_vrx rfl) (ev_cons (ev_op (x := .lst (W.map Dd.av)) (y := .int (a : Nat)) (ev_vrx rfl) (ev_vrx rfl) (fIx_lst (atI_nat (by rw [core_List_getElem__map_al, hx]; rfl)))) ev_nil)) rfl e2) rfl)).trans hd)
 have t1 : dAnd (dTest (dOp (fEq false) (dVar 9) (dC (.str "")))) (dTest (dOp (fEq false) (dCB fLen (dCons (dVar 7) dNil)) (dC (.int 1)))) (E Q A Y) S2 = .ok (decide (lineT ys = "") && decide (((W.length : Nat) : Int) = 1)) S2 := ev_andT (ev_test (ev_op (x := .str (lineT ys)) (y := .str "") (ev_vrx rfl) ev_c (by rw [fEq_str, if_neg Bool.false_ne_true]))) fun _ => ev_test (ev_op (x := .int (W.length : Nat)) (y := .int 1) (ev_cb (xs := [.ref q]) (ev_cons (ev_vrx rfl) ev_nil) (by rw [fLen_lst hs2, ll])) ev_c (by rw [fEq_int, if_neg Bool.false_ne_true]))
 cases hb : (decide (lineT ys = "") && decide (((W.length : Nat) : Int) = 1)) with
 | true =>
  obtain ⟨S3, e3⟩ := read_nl (S := S2)
  exact ⟨S3, s1 (ev_seqr' ((ev_ift (t1.trans (by rw [hb]))).trans (ev_ret (ev_call (avs := [.tup false [.str "line", .int 1], .tup false [.str "line", .int 1]]) (ev_cons (ev_call (avs := [.str "\n"]) (ev_cons ev_c ev_nil) rfl e3) (ev_cons (ev_tupL (ev_cons ev_c (ev_cons ev_c ev_nil)) (by show 2 <= 1000000; decide)) ev_nil)) rfl same_line))))⟩
 | false =>
  obtain ⟨c, S3, e3, c0, c1, g3⟩ := draw_ev (m := 2) (by decide) (by decide) g2.pool
  have hs3 := g3.stL hs2 hq
  let R : List (List Str) := if c = 0 then (PS W).drop (a + 1) else (PS W).drop a
  let L2 : List (List Str) := (PS W).take a ++ ys :: R
  have pl : (PS W).length = W.length := by rw [core_List_length_map_al]
  have Rl : R.length <= W.length := by show (if c = 0 then (PS W).drop (a + 1) else (PS W).drop a).length <= _; split <;> rw [List.length_drop] <;> omega
  have okR : ∀ z ∈ R, PsOk z := fun z hz => by
   have : z ∈ PS W := by
    have hz : z ∈ (if c = 0 then (PS W).drop (a + 1) else (PS W).drop a) := hz
    split at hz <;> exact List.mem_of_mem_drop hz
   exact (ls_ok hW (by omega)).ok z this
  have l2 : LS L2 = (LS (PS W)).take a ++ [.str (lineT ys)] ++ LS R := by
   show (((PS W).take a ++ ys :: R).map lineT).map AV.str = _
   rw [core_List_map_append_al, core_List_map_append_al, List.map_take, List.map_take, core_List_append_assoc_al]
   rfl
  let qn := S3.length
  have hqn : qn ≠ p := by have := g3.pool.lt; show S3.length ≠ p; omega
  let Q2 := some (AV.ref qn)
  let S4 : Store := S3 ++ [.lst (LS L2)]
  have part : ∀ {k : Nat} {dk : DE}, dk (E Q A Y) S3 = .ok (.int (k : Nat)) S3 -> LS R = (LS (PS W)).drop k -> dAsg (dTh (dlAddL (dOp fAdd (dSl (dVar 7) dNo (dSo (dVar 8))) (dLst (dCons (dVar 9) dNil))) (dSl (dVar 7) (dSo dk) dNo))) (dgName 7) (E Q A Y) S3 = .go (.nx (E Q2 A Y)) S4 := fun {k dk} hk hR => by
   refine ev_asg (x := .ref qn) (ev_th (xs := LS L2) ?_) rfl
   rw [l2, hR]
   refine ev_addL (x := .lst ((LS (PS W)).take a ++ [.str (lineT ys)])) (y := .lst ((LS (PS W)).drop k)) (ev_op (x := .lst ((LS (PS W)).take a)) (y := .lst [.str (lineT ys)]) (ev_slR (x := .ref q) (ev_vrx rfl) (slref hs3) (ev_vrx rfl)) (ev_lst (ev_cons (ev_vrx rfl) ev_nil) (by show 1 <= 1000000; decide)) (add_lst rfl (by rw [List.length_take, ll]; show _ + 1 <= 1000000; omega))) (ev_slQ (x := .ref q) (ev_vrx rfl) (slref hs3) hk) rfl rfl (by rw [core_List_length_append_al, List.length_take, List.length_drop, ll]; show _ + 1 + _ <= 1000000; omega)
  have t2 : dTest (dOp (fEq false) (dCall 2 F__law_draw (dCons (dVar 11) (dCons (dC (.int 2)) dNil))) (dC (.int 0))) (E Q A Y) S2 = .ok (decide (c = 0)) S3 := eq_int 0 (ev_call (avs := [.ref p, .int 2]) (ev_cons (ev_vrx rfl) (ev_cons ev_c ev_nil)) rfl e3)
  have s2 : dIfS (dTest (dOp (fEq false) (dCall 2 F__law_draw (dCons (dVar 11) (dCons (dC (.int 2)) dNil))) (dC (.int 0)))) (dAsg (dTh (dlAddL (dOp fAdd (dSl (dVar 7) dNo (dSo (dVar 8))) (dLst (dCons (dVar 9) dNil))) (dSl (dVar 7) (dSo (dOp fAdd (dVar 8) (dC (.int 1)))) dNo))) (dgName 7)) (dAsg (dTh (dlAddL (dOp fAdd (dSl (dVar 7) dNo (dSo (dVar 8))) (dLst (dCons (dVar 9) dNil))) (dSl (dVar 7) (dSo (dVar 8)) dNo))) (dgName 7)) (E Q A Y) S2 = .go (.nx (E Q2 A Y)) S4 := by
   by_cases hc : c = 0
   ·refine (ev_ift (t2.trans (by rw [core_decide_eq_true_al hc]))).trans (part (k := a + 1) (ev_op (x := .int (a : Nat)) (y := .int 1) (ev_vrx rfl) ev_c rfl) ?_)
    show ((if c = 0 then (PS W).drop (a + 1) else (PS W).drop a).map lineT).map AV.str = _
    rw [if_pos hc, List.map_drop, List.map_drop]
   ·refine (ev_iff (t2.trans (by rw [core_decide_eq_false_al hc]))).trans (part (k := a) (ev_vrx rfl) ?_)
    show ((if c = 0 then (PS W).drop (a + 1) else (PS W).drop a).map lineT).map AV.str = _
    rw [if_neg hc, List.map_drop, List.map_drop]
  have g4 : Go p S3 S4 := Go.app g3.pool
  obtain ⟨b, S5, e5, b0, b1, g5⟩ := draw_ev (m := 3) (by decide) (by decide) g4.pool
  have hs5 : Dl.stL S5 qn = some (LS L2) := g5.stL stL_new hqn
  have L2l : (LS L2).length <= 60 := by
   rw [core_List_length_map_al, core_List_length_map_al]
   show ((PS W).take a ++ ys :: R).length <= 60
   rw [core_List_length_append_al, List.length_take, core_List_length_cons_al]
   omega
  have t3 : dTest (dOp (fEq false) (dCall 2 F__law_draw (dCons (dVar 11) (dCons (dC (.int 3)) dNil))) (dC (.int 0))) (E Q2 A Y) S4 = .ok (decide (b = 0)) S5 := eq_int 0 (ev_call (avs := [.ref p, .int 3]) (ev_cons (ev_vrx rfl) (ev_cons ev_c ev_nil)) rfl e5)
  have s3 : ∃ (R2 : List (List Str)) (S6 : Store), dIfS (dTest (dOp (fEq false) (dCall 2 F__law_draw (dCons (dVar 11) (dCons (dC (.int 3)) dNil))) (dC (.int 0)))) (dDrop (dBM "list" fAppend (dVar 7) (dCons (dC (.str "Q")) dNil))) dNext (E Q2 A Y) S4 = .go (.nx (E Q2 A Y)) S6 /\ Dl.stL S6 qn = some (LS ((PS W).take a ++ ys :: R2)) /\ R2.length <= R.length + 1 /\ R.length <= R2.length /\ ∀ z ∈ R2, PsOk z := by
   by_cases hb : b = 0
   ·refine ⟨R ++ [QL], S5.set qn (.lst (LS L2 ++ [.str "Q"])), (ev_ift (t3.trans (by rw [core_decide_eq_true_al hb]))).trans (app_ev (T1 := S5) rfl hs5 ev_c hs5 (by omega)), ?_, by rw [core_List_length_append_al]; exact core_Nat_le_refl_al _, by rw [core_List_length_append_al]; omega, fun z hz => ?_⟩
    ·rw [stL_eq.mpr (core_List_getElem__set_self_al (stL_lt hs5))]
     congr 1
     show LS ((PS W).take a ++ ys :: R) ++ [.str "Q"] = LS ((PS W).take a ++ ys :: (R ++ [QL]))
     rw [show (PS W).take a ++ ys :: (R ++ [QL]) = ((PS W).take a ++ ys :: R) ++ [QL] from by rw [core_List_append_assoc_al]; rfl]
     show _ = (((_ : List (List Str)) ++ [QL]).map lineT).map AV.str
     rw [core_List_map_append_al, core_List_map_append_al, show ([QL] : List (List Str)).map lineT = [("Q" : Str)] from by rw [core_List_map_cons_al, lineQ]; rfl]
     rfl
    ·rcases core_List_mem_append_al.mp hz with hz | hz
     ·exact okR z hz
     ·rw [core_List_mem_singleton_al.mp hz]
      exact psok_of (by simp) (by decide) fun v hv => by rw [core_List_mem_singleton_al.mp hv]; exact ptok_c (by decide) (by decide)
   ·exact ⟨R, S5, (ev_iff (t3.trans (by rw [core_decide_eq_false_al hb]))).trans rfl, hs5, Nat.le_succ _, core_Nat_le_refl_al _, okR⟩
  obtain ⟨R2, S6, s3, hs6, R2l, R2m, okR2⟩ := s3
  have LK : LsOk ((PS W).take a ++ ys :: R2) := ⟨by rw [core_List_length_append_al, List.length_take, core_List_length_cons_al]; omega, fun z hz => by
   rcases core_List_mem_append_al.mp hz with hz | hz
   ·exact (ls_ok hW (by omega)).ok z (List.mem_of_mem_take hz)
   ·rcases core_List_mem_cons_al.mp hz with rfl | hz
    ·exact ok
    ·exact okR2 z hz⟩
  have ne : textT ((PS W).take a ++ ys :: R2) ≠ "" := by
   cases hp : (PS W).take a with
   | cons x t => cases t <;> exact text_two
   | nil =>
    cases hr : R2 with
    | cons x t => exact text_two
    | nil =>
     rw [List.nil_append, text_one]
     intro h
     have ha : a = 0 := by
      have := congrArg List.length hp
      rw [List.length_take, pl] at this
      have : min a W.length = 0 := this
      omega
     have hR : R.length = 0 := by rw [hr] at R2m; exact Nat.le_zero.mp R2m
     have hw : W.length = 1 := by
      have hR : (if c = 0 then (PS W).drop (a + 1) else (PS W).drop a).length = 0 := hR
      split at hR <;> rw [List.length_drop, pl] at hR <;> omega
     rw [h, hw] at hb
     cases hb
  obtain ⟨S7, e7, _⟩ := lread_bad (S := S6) LK ne (fun z hz => nn_all hW z (List.mem_of_mem_take hz)) bad
  have tl' : ((PS W).take a).length = a := by rw [List.length_take, pl]; omega
  rw [tl'] at e7
  refine ⟨S7, s1 ((ev_seq ((ev_iff (t1.trans (by rw [hb]))).trans rfl)).trans ((ev_seq s2).trans ((ev_seq s3).trans (ev_ret ?_))))⟩
  exact ev_call (avs := [.tup false [.str "line", .int ((a : Int) + 1)], .tup false [.str "line", .int ((a : Int) + 1)]]) (ev_cons (ev_call (avs := [.str (textT ((PS W).take a ++ ys :: R2))]) (ev_cons (join_nl LK (ev_vrx (x := .ref qn) rfl) hs6) ev_nil) rfl e7) (ev_cons (ev_tupL (ev_cons ev_c (ev_cons (ev_op (x := .int (a : Nat)) (y := .int 1) (ev_vrx rfl) ev_c rfl) ev_nil)) (by show 2 <= 1000000; decide)) ev_nil)) rfl same_line
end
theorem law_rest_ev {sc : AV} {S1 : Store} {p : Nat} (h : Pool S1 p) : ∃ S', d_law_rest [some sc, none, none, none, none, none, none, none, none, none, none, some (.ref p), none, none] S1 = .go (.rt (.bl true)) S' := by
 let z : Option AV := none
 obtain ⟨a1, S2, e1, a10, a11, g1⟩ := draw_ev (m := 2) (by decide) (by decide) h
 obtain ⟨a2, S3, e2, a20, a21, g2⟩ := draw_ev (m := 2) (by decide) (by decide) g1.pool
 obtain ⟨a3, S4, e3, a30, a31, g3⟩ := draw_ev (m := 6) (by decide) (by decide) g2.pool
 obtain ⟨l, S5, e4, g4, hs, hl, nm⟩ := names_ev (c := 1 + a3) g3.pool (by omega) (by omega)
 have hq : S4.length ≠ p := by have := g3.pool.lt; omega
 have l0 : 0 < l.length := by omega
 have l1 : l.length <= 100 := by omega
 let E := fun (o1 o2 o3 o4 o5 o6 o7 o8 o9 o10 : Option AV) => B53 sc p o1 o2 o3 o4 o5 o6 o7 o8 o9 o10
 let V1 := some (AV.bl (decide (a1 = 0)))
 let V2 := some (AV.bl (decide (a2 = 0)))
 let VN := some (AV.ref S4.length)
 have any : ∀ {m : Int} {o3 : Option AV} (x : AV) (T : Store) (d : AV) (T' : Store), F__law_any_deed [.ref p, .ref S4.length, .int m] T = .ok d T' -> ∃ ρ1, dgName 12 x (wipeE (E V1 V2 o3 z z z z z z VN) [12]) = some ρ1 /\ dCall 3 F__law_any_deed (dCons (dVar 11) (dCons (dVar 10) (dCons (dC (.int m)) dNil))) ρ1 T = .ok d T' := fun {m o3} x T d T' e => ⟨_, rfl, ev_call (avs := [.ref p, .ref S4.length, .int m]) (ev_cons (ev_vrx rfl) (ev_cons (ev_vrx rfl) (ev_cons ev_c ev_nil))) rfl e⟩
 obtain ⟨n5, S6, e5, b0, b1, g5⟩ := draw_ev (m := 21) (by decide) (by decide) g4.pool
 obtain ⟨n5, rfl⟩ : ∃ k : Nat, n5 = (k : Int) := ⟨n5.toNat, by omega⟩
 have rgI : ∀ {o3 : Option AV} {T T' : Store} {n : Nat}, F__law_draw [.ref p, .int 21] T = .ok (.int (n : Nat)) T' -> n <= 30 -> diRng1 (dCons (dCall 2 F__law_draw (dCons (dVar 11) (dCons (dC (.int 21)) dNil))) dNil) (E V1 V2 o3 z z z z z z VN) T = .ok ⟨rngL 0 n, fun _ => true⟩ T' := fun {o3 T T' n} e hn => by
  have := rng_its (ρ := E V1 V2 o3 z z z z z z VN) (S := T) (S1 := T') (d := dCall 2 F__law_draw (dCons (dVar 11) (dCons (dC (.int 21)) dNil))) (n := (n : Nat)) (ev_call (avs := [.ref p, .int 21]) (ev_cons (ev_vrx rfl) (ev_cons ev_c ev_nil)) rfl e) (by omega) (by omega)
  rwa [Int.toNat_natCast] at this
 obtain ⟨W, S7, ew, gw, hW, lW⟩ := lds_ev (m := 10) (i := 12) g5.pool hq (g5.stL hs hq) l0 l1 (fun y hy => (nm.name hy).1) (by decide) (by decide) (rgI e5 (by omega)) (by omega) (any (m := 10) (o3 := z))
 obtain ⟨n6, S8, e6, c0, c1, g6⟩ := draw_ev (m := 21) (by decide) (by decide) gw.pool
 obtain ⟨n6, rfl⟩ : ∃ k : Nat, n6 = (k : Int) := ⟨n6.toNat, by omega⟩
 have gg : Go p S5 S8 := (g5.trans gw).trans g6
 let V3 := some (AV.lst (W.map Dd.av))
 obtain ⟨D, S9, ed, gd, hD, lD⟩ := lds_ev (m := 3) (i := 12) gg.pool hq (gg.stL hs hq) l0 l1 (fun y hy => (nm.name hy).1) (by decide) (by decide) (rgI (o3 := V3) e6 (by omega)) (by omega) (any (m := 3) (o3 := V3))
 let V4 := some (AV.lst (D.map Dd.av))
 have hDl : D.length <= 25 := by omega
 have hWl : W.length <= 25 := by omega
 let t := textT (PS D)
 let V6 := some (AV.str t)
 obtain ⟨as, hai, haa, s7⟩ : ∃ as : AV, (∀ S, itsOf S as = some ⟨D.map Dd.av, fun _ => true⟩) /\ (∀ S, seqA S as = some (D.map Dd.av)) /\ dIfS (dTru (dVar 2)) (dAsg (dFz (dlCB flList (dCons (dVar 4) dNil))) (dgName 5)) dNext (E V1 V2 V3 V4 (some (.tup false (D.map Dd.av))) z z z z VN) S9 = .go (.nx (E V1 V2 V3 V4 (some as) z z z z VN)) S9 := by
  by_cases hb : a2 = 0
  ·exact ⟨.lst (D.map Dd.av), fun S => rfl, fun S => rfl, (ev_ift (ev_tru (x := .bl (decide (a2 = 0))) (ev_vrx rfl) (by rw [core_decide_eq_true_al hb]; rfl))).trans (ev_asg (ev_fz (ev_lcb (xs := [.lst (D.map Dd.av)]) (ev_cons (ev_vrx rfl) ev_nil) rfl)) rfl)⟩
  ·exact ⟨.tup false (D.map Dd.av), fun S => rfl, fun S => rfl, (ev_iff (ev_tru (x := .bl (decide (a2 = 0))) (ev_vrx rfl) (by rw [core_decide_eq_false_al hb]; rfl))).trans rfl⟩
 let V5 := some as
 obtain ⟨r1, S10, er1, hr1, sr1⟩ := read_D (S := S9) hD (by omega)
 have g10 : Go p S9 S10 := by
  rcases hr1 with rfl | ⟨o, rfl⟩
  ·exact Go.rfl' gd.pool
  ·exact Go.app gd.pool
 let qr := S10.length
 have hqr : qr ≠ p := by have := g10.pool.lt; show S10.length ≠ p; omega
 let V7 := some (AV.ref qr)
 let S11 : Store := S10 ++ [.lst (LS (PS W))]
 have g11 : Go p S10 S11 := Go.app g10.pool
 obtain ⟨r2, S12, er2, hr2, sr2⟩ := read_D (S := S11) hW (by omega)
 have g12 : Go p S11 S12 := by
  rcases hr2 with rfl | ⟨o, rfl⟩
  ·exact Go.rfl' g11.pool
  ·exact Go.app g11.pool
 have hs12 : Dl.stL S12 qr = some (LS (PS W)) := g12.stL stL_new hqr
 have fin : ∃ S', dRet (dCall 2 (Fsame 12) (dCons (dCall 1 F__law_read (dCons (dOp fAdd (dVar 6) (dC (.str "\n"))) dNil)) (dCons (dIf (dTest (dOp fGt (dCB fLen (dCons (dVar 4) dNil)) (dC (.int 0)))) (dTup (dCons (dC (.str "line")) (dCons (dCB fMax2 (dCons (dC (.int 1)) (dCons (dOp fAdd (dCB fLen (dCons (dVar 4) dNil)) (dC (.int 1))) dNil))) dNil))) (dTup (dCons (dC (.str "line")) (dCons (dC (.int 1)) dNil)))) dNil))) (E V1 V2 V3 V4 V5 V6 V7 z z VN) S12 = .go (.rt (.bl true)) S' := by
  have ln : ∀ {T : Store}, dCB fLen (dCons (dVar 4) dNil) (E V1 V2 V3 V4 V5 V6 V7 z z VN) T = .ok (.int (D.length : Nat)) T := fun {T} => ev_cb (xs := [.lst (D.map Dd.av)]) (ev_cons (ev_vrx rfl) ev_nil) (by show some (AV.int (((D.map Dd.av).length : Nat) : Int)) = _; rw [core_List_length_map_al])
  have tl0 : t.length <= 10000 := by
   have a := join_len "\n" ((PS D).map lineT)
   have b := (ls_ok hD (by omega)).sum
   have c : ("\n" : Str).length = 1 := by decide
   rw [c, core_List_length_map_al, core_List_length_map_al] at a
   show (Txt.join "\n" ((PS D).map lineT)).length <= 10000
   omega
  have c : ("\n" : Str).length = 1 := by decide
  have ad : dOp fAdd (dVar 6) (dC (.str "\n")) (E V1 V2 V3 V4 V5 V6 V7 z z VN) S12 = .ok (.str (t ++ "\n")) S12 := ev_op (x := .str t) (y := .str "\n") (ev_vrx rfl) ev_c (fAdd_big (by rw [c]; omega))
  have gt0 : ∀ {T : Store}, dTest (dOp fGt (dCB fLen (dCons (dVar 4) dNil)) (dC (.int 0))) (E V1 V2 V3 V4 V5 V6 V7 z z VN) T = .ok (decide ((0 : Int) < (D.length : Nat))) T := fun {T} => gt_int 0 ln
  by_cases hne : D = []
  ·have et : t ++ "\n" = "\n" := by
    show textT (PS D) ++ "\n" = "\n"
    rw [hne]
    decide +kernel
   obtain ⟨S', e⟩ := read_nl (S := S12)
   refine ⟨S', ev_ret (ev_call (avs := [.tup false [.str "line", .int 1], .tup false [.str "line", .int 1]]) (ev_cons (ev_call (avs := [.str "\n"]) (ev_cons (ad.trans (by rw [et])) ev_nil) rfl e) (ev_cons ?_ ev_nil)) rfl same_line)⟩
   unfold dIf
   rw [gt0, Res.bind_ok, core_decide_eq_false_al (by rw [hne]; decide), if_neg Bool.false_ne_true]
   exact ev_tupL (ev_cons ev_c (ev_cons ev_c ev_nil)) (by show 2 <= 1000000; decide)
  ·have pne : PS D ≠ [] := fun e => hne (List.map_eq_nil_iff.mp e)
   have et : t ++ "\n" = textT (PS D ++ EL :: []) := (text_snoc pne).symm
   have LK : LsOk (PS D ++ EL :: []) := ⟨by rw [core_List_length_append_al, core_List_length_map_al]; show _ + 1 <= 100; omega, fun y hy => by
    rcases core_List_mem_append_al.mp hy with hy | hy
    ·exact (ls_ok hD (by omega)).ok y hy
    ·rw [core_List_mem_singleton_al.mp hy]; exact ps_empty⟩
   have ne : textT (PS D ++ EL :: []) ≠ "" := by
    cases hp : PS D with
    | nil => exact absurd hp pne
    | cons x t => cases t <;> exact text_two
   obtain ⟨S', e, _⟩ := lread_bad (S := S12) LK ne (nn_all hD) em_no
   rw [core_List_length_map_al] at e
   have d0 : 0 < D.length := List.length_pos_iff.mpr hne
   refine ⟨S', ev_ret (ev_call (avs := [.tup false [.str "line", .int ((D.length : Int) + 1)], .tup false [.str "line", .int ((D.length : Int) + 1)]]) (ev_cons (ev_call (avs := [.str (textT (PS D ++ EL :: []))]) (ev_cons (ad.trans (by rw [et])) ev_nil) rfl e) (ev_cons ?_ ev_nil)) rfl same_line)⟩
   unfold dIf
   rw [gt0, Res.bind_ok, core_decide_eq_true_al (by omega), if_pos rfl]
   refine ev_tupL (ev_cons ev_c (ev_cons (ev_cb (xs := [.int 1, .int ((D.length : Int) + 1)]) (ev_cons ev_c (ev_cons (ev_op (x := .int (D.length : Nat)) (y := .int 1) ln ev_c rfl) ev_nil)) ?_) ev_nil)) (by show 2 <= 1000000; decide)
   show some (AV.int (if (D.length : Int) + 1 > 1 then (D.length : Int) + 1 else 1)) = _
   rw [if_pos (by omega)]
 have sp : ∃ S', dSeq (dIfS (dAnd (dTru (dVar 1)) (dTest (dOp fGt (dCB fLen (dCons (dVar 7) dNil)) (dC (.int 0))))) spB dNext) (dRet (dCall 2 (Fsame 12) (dCons (dCall 1 F__law_read (dCons (dOp fAdd (dVar 6) (dC (.str "\n"))) dNil)) (dCons (dIf (dTest (dOp fGt (dCB fLen (dCons (dVar 4) dNil)) (dC (.int 0)))) (dTup (dCons (dC (.str "line")) (dCons (dCB fMax2 (dCons (dC (.int 1)) (dCons (dOp fAdd (dCB fLen (dCons (dVar 4) dNil)) (dC (.int 1))) dNil))) dNil))) (dTup (dCons (dC (.str "line")) (dCons (dC (.int 1)) dNil)))) dNil)))) (E V1 V2 V3 V4 V5 V6 V7 z z VN) S12 = .go (.rt (.bl true)) S' := by
  have tt : dAnd (dTru (dVar 1)) (dTest (dOp fGt (dCB fLen (dCons (dVar 7) dNil)) (dC (.int 0)))) (E V1 V2 V3 V4 V5 V6 V7 z z VN) S12 = .ok (decide (a1 = 0) && decide ((0 : Int) < (W.length : Nat))) S12 := ev_andT (ev_tru (x := .bl (decide (a1 = 0))) (ev_vrx rfl) rfl) fun _ => gt_int 0 (ev_cb (xs := [.ref qr]) (ev_cons (ev_vrx rfl) ev_nil) (by rw [fLen_lst hs12, core_List_length_map_al, core_List_length_map_al, core_List_length_map_al]))
  cases hb : (decide (a1 = 0) && decide ((0 : Int) < (W.length : Nat))) with
  | true =>
   have w0 : 0 < W.length := by have := of_decide_eq_true (core_Bool_and_eq_true_iff_al.mp hb).2; omega
   obtain ⟨S', e⟩ := spB_ev (sc := sc) (o1 := V1) (o2 := V2) (o4 := V4) (o5 := V5) (o6 := V6) (o8 := z) (o9 := z) (o10 := VN) g12.pool hqr hs12 hW hWl w0
   exact ⟨S', ev_seqr' ((ev_ift (tt.trans (by rw [hb]))).trans e)⟩
  | false =>
   obtain ⟨S', e⟩ := fin
   exact ⟨S', (ev_seq ((ev_iff (tt.trans (by rw [hb]))).trans rfl)).trans e⟩
 obtain ⟨S', esp⟩ := sp
 refine ⟨S', ?_⟩
 have dr : ∀ {m : Int} {o1 o2 : Option AV} {T T' : Store} {r : Int}, F__law_draw [.ref p, .int m] T = .ok (.int r) T' -> dCall 2 F__law_draw (dCons (dVar 11) (dCons (dC (.int m)) dNil)) (E o1 o2 z z z z z z z z) T = .ok (.int r) T' := fun e => ev_call (avs := [.ref p, .int _]) (ev_cons (ev_vrx rfl) (ev_cons ev_c ev_nil)) rfl e
 refine (ev_seq (ρ1 := E V1 z z z z z z z z z) (S1 := S2) (ev_asg (ev_op (x := .int a1) (y := .int 0) (dr e1) ev_c (by rw [fEq_int, if_neg Bool.false_ne_true])) rfl)).trans ?_
 refine (ev_seq (ρ1 := E V1 V2 z z z z z z z z) (S1 := S3) (ev_asg (ev_op (x := .int a2) (y := .int 0) (dr e2) ev_c (by rw [fEq_int, if_neg Bool.false_ne_true])) rfl)).trans ?_
 refine (ev_seq (ρ1 := E V1 V2 z z z z z z z VN) (S1 := S5) (ev_asg (ev_call (avs := [.ref p, .int (1 + a3)]) (ev_cons (ev_vrx rfl) (ev_cons (ev_op (x := .int 1) (y := .int a3) ev_c (dr e3) rfl) ev_nil)) rfl e4) rfl)).trans ?_
 refine (ev_seq (ρ1 := E V1 V2 V3 z z z z z z VN) (S1 := S7) (ev_asg ew rfl)).trans ?_
 refine (ev_seq (ρ1 := E V1 V2 V3 V4 z z z z z VN) (S1 := S9) (ev_asg ed rfl)).trans ?_
 refine (ev_seq (ρ1 := E V1 V2 V3 V4 (some (.tup false (D.map Dd.av))) z z z z VN) (S1 := S9) (ev_asg (ev_cb (xs := [.lst (D.map Dd.av)]) (ev_cons (ev_vrx rfl) ev_nil) rfl) rfl)).trans ?_
 refine (ev_seq s7).trans ?_
 refine (ev_seq (ρ1 := E V1 V2 V3 V4 V5 V6 z z z VN) (S1 := S9) (ev_asg (join_nl (ls_ok hD (by omega)) (ev_fz (lines_lc (x := .lst (D.map Dd.av)) (i := 4) (c := 13) hD (by omega) rfl rfl (fun d T hd => law_line_ev hd) fun y => ⟨_, rfl, rfl⟩)) rfl) rfl)).trans ?_
 have x1 : dOr (dNot (dTest (dCall 2 (Fsame 12) (dCons (dCall 1 F_write_deeds (dCons (dVar 5) dNil)) (dCons (dVar 6) dNil))))) (dTest (dOp (fEq true) (dFz (dlCB flList (dCons (dVar 5) dNil))) (dVar 4))) (E V1 V2 V3 V4 V5 V6 z z z VN) S9 = .ok false S9 := ev_or (a := false) (b := false) (ev_not (b := true) (ev_test (ev_call (avs := [.str t, .str t]) (ev_cons (ev_call (avs := [as]) (ev_cons (ev_vrx rfl) ev_nil) rfl (write_ev hD (by omega) hai)) (ev_cons (ev_vrx rfl) ev_nil)) rfl (same_refl (m := 0) (okV_str 0 t) (by decide))))) fun _ => ev_test (ev_op (x := .lst (D.map Dd.av)) (y := .lst (D.map Dd.av)) (ev_fz (ev_lcb (xs := [as]) (ev_cons (ev_vrx rfl) ev_nil) (haa S9))) (ev_vrx rfl) (fEq_nself (okV_lst (n := 1) (by rw [core_List_length_map_al]; omega) fun x hx => by obtain ⟨d, _, rfl⟩ := core_List_mem_map_al.mp hx; exact okV_dd).d (core_Nat_le_trans_al (okV_lst (n := 1) (xs := D.map Dd.av) (by rw [core_List_length_map_al]; omega) fun x hx => by obtain ⟨d, _, rfl⟩ := core_List_mem_map_al.mp hx; exact okV_dd).dep (by decide))))
 refine (ev_seq ((ev_iff x1).trans rfl)).trans ?_
 have x2 : dNot (dTest (dCall 2 (Fsame 12) (dCons (dCall 1 F__law_read (dCons (dVar 6) dNil)) (dCons (dTup (dCons (dC (.str "deeds")) (dCons (dCB fTupL (dCons (dVar 4) dNil)) dNil))) dNil)))) (E V1 V2 V3 V4 V5 V6 z z z VN) S9 = .ok false S10 := ev_not (b := true) (ev_test (ev_call (avs := [r1, .tup false [.str "deeds", .tup false (D.map Dd.av)]]) (ev_cons (ev_call (avs := [.str t]) (ev_cons (ev_vrx rfl) ev_nil) rfl er1) (ev_cons (ev_tupL (ev_cons ev_c (ev_cons (ev_cb (xs := [.lst (D.map Dd.av)]) (ev_cons (ev_vrx rfl) ev_nil) rfl) ev_nil)) (by show 2 <= 1000000; decide)) ev_nil)) rfl (sr1 S10)))
 refine (ev_seq ((ev_iff x2).trans rfl)).trans ?_
 refine (ev_seq (ρ1 := E V1 V2 V3 V4 V5 V6 V7 z z VN) (S1 := S11) (ev_asg (ev_th (lines_lc (x := .lst (W.map Dd.av)) (i := 3) (c := 13) hW (by omega) rfl rfl (fun d T hd => law_line_ev hd) fun y => ⟨_, rfl, rfl⟩)) rfl)).trans ?_
 have x3 : dNot (dTest (dCall 2 (Fsame 12) (dCons (dCall 1 F__law_read (dCons (dBM "str" fJoin (dC (.str "\n")) (dCons (dVar 7) dNil)) dNil)) (dCons (dTup (dCons (dC (.str "deeds")) (dCons (dCB fTupL (dCons (dVar 3) dNil)) dNil))) dNil)))) (E V1 V2 V3 V4 V5 V6 V7 z z VN) S11 = .ok false S12 := ev_not (b := true) (ev_test (ev_call (avs := [r2, .tup false [.str "deeds", .tup false (W.map Dd.av)]]) (ev_cons (ev_call (avs := [.str (textT (PS W))]) (ev_cons (join_nl (ls_ok hW (by omega)) (ev_vrx (x := .ref qr) rfl) stL_new) ev_nil) rfl er2) (ev_cons (ev_tupL (ev_cons ev_c (ev_cons (ev_cb (xs := [.lst (W.map Dd.av)]) (ev_cons (ev_vrx rfl) ev_nil) rfl) ev_nil)) (by show 2 <= 1000000; decide)) ev_nil)) rfl (sr2 S12)))
 refine (ev_seq ((ev_iff x3).trans rfl)).trans ?_
 exact esp
end Dn
namespace My
open PySem PySem.Spec PyProof.Rows L2 Evl Cm
structure Txt (K : PySem.W.Frag) (mg : Str -> Option Value) : Prop where
 b_len : mg "len" = none
 b_abs : mg "abs" = none
 b_int : mg "int" = none
 b_isinstance : mg "isinstance" = none
 b_tuple : mg "tuple" = none
 b_list : mg "list" = none
 b_dict : mg "dict" = none
 b_str : mg "str" = none
 b_bool : mg "bool" = none
 b_all : mg "all" = none
 b_range : mg "range" = none
 b_zip : mg "zip" = none
 b_ValueError : mg "ValueError" = none
section
variable {P : Program} {w : World} {K : PySem.W.Frag} {mg : Str -> Option Value} {base : Heap}
abbrev N__law_pool : List Str := ["_law_script", "_law_cells", "_law_great", "_law_small", "_law_cell"]
theorem sc__law_pool : FnScope N__law_pool Q9.h (defScope s__law_pool) := Dl.fsc
def spPool (K : PySem.W.Frag) : Sp := fun vs H Q _ => ∃ (a : Addr) (ns : List Int), vs = [.ref a] /\ SqL K H a (ns.map V.int) /\ ns.length <= 63 /\ ∀ p H', Ex H H' -> H p = none -> PoolAt (fun a => H a ≠ none) H' p -> Q (.ref p) H'
theorem ok_pool (T : Txt K mg) {f : Addr} {fd : FuncData} (F : Fun K "_law_pool" "_law_pool" s__law_pool f fd) : FnOk P w K mg base (L2N.CX P w) 1 f fd Q9.h (spPool K) := by
 refine Dl.okC_fun F sc__law_pool (fun vs H Q E h => ?_) (fun cdv A outer s H vs Q E hr h => ?_)
 ·obtain ⟨a, ns, rfl, _⟩ := h
  rfl
 obtain ⟨a, ns, rfl, hS, hl, k⟩ := h
 refine ⟨_, (pss_cons_al (ps_setLc (i := 1) (own := [("_law_cell", 4)]) (g := (gName 4)) (tt := tYes) rfl sc__law_pool.nd rfl rfl (sw_true rfl rfl rfl (by decide +kernel)) (pi_list (pe_slice sl_list (pv 0) po_none (po_some pe_int))) (blkOk_by (own := [("_law_cell", 4)]) (N := N__law_pool) (sc := defScope s__law_pool) (by decide +kernel)) (fun _ _ _ _ _ => (Dl.pgn (i := 4) sc__law_pool.nd)) (fun _ _ _ _ _ => pts_nil) (fun _ _ _ _ _ => (pe_callTy call_int1 (by rfl) T.b_int (by decide +kernel) (pa_cons_al (pv 4) pa_nil_al))))
 (pss_cons_al (ps_setLc (i := 2) (own := [("_law_cell", 4)]) (g := (gName 4)) rfl sc__law_pool.nd rfl rfl (sw_true rfl rfl rfl (by decide +kernel)) (pi_list (pv 1)) (blkOk_by (own := [("_law_cell", 4)]) (N := N__law_pool) (sc := defScope s__law_pool) (by decide +kernel)) (fun _ _ _ _ _ => (Dl.pgn (i := 4) sc__law_pool.nd)) (fun _ _ _ _ _ => (pts_one (pt_cmpR op_ge (pe_callB call_abs (by rfl) T.b_abs (by decide +kernel) (pa_cons_al (pv 4) pa_nil_al)) (pe_op op_pow pe_int pe_int) (nomark _)))) (fun _ _ _ _ _ => (pe_callB call_abs (by rfl) T.b_abs (by decide +kernel) (pa_cons_al (pv 4) pa_nil_al))))
 (pss_cons_al (ps_setLc (i := 3) (own := [("_law_cell", 4)]) (g := (gName 4)) rfl sc__law_pool.nd rfl rfl (sw_true rfl rfl rfl (by decide +kernel)) (pi_list (pv 1)) (blkOk_by (own := [("_law_cell", 4)]) (N := N__law_pool) (sc := defScope s__law_pool) (by decide +kernel)) (fun _ _ _ _ _ => (Dl.pgn (i := 4) sc__law_pool.nd)) (fun _ _ _ _ _ => (pts_one (pt_cmpR op_lt (pe_callB call_abs (by rfl) T.b_abs (by decide +kernel) (pa_cons_al (pv 4) pa_nil_al)) (pe_op op_pow pe_int pe_int) (nomark _)))) (fun _ _ _ _ _ => (pe_op op_mod (pe_callTy call_int1 (by rfl) T.b_int (by decide +kernel) (pa_cons_al (pv 4) pa_nil_al)) pe_int)))
 (pss_one (ps_ret (pe_lst (pa_cons_al (pv 2) (pa_cons_al (pv 3) (pa_cons_al pe_int (pa_cons_al pe_int pa_nil_al)))))))))), ?_⟩
 obtain ⟨cs, ec, hcl⟩ := cut_ints ns none (some 63)
 have e18 : ∀ (H1 : Hp) (σ : L2.St), Ev (tOp (rI CPow fun i j => .int (i ^ j.toNat)) (tC (.int 10)) (tC (.int 18))) σ H1 (.int ((10 : Int) ^ (18 : Int).toNat)) := fun H1 σ =>
  ev_op ev_c ev_c (rv_I ⟨by decide, by decide, by decide⟩)
 have eabs : ∀ {H1 : Hp} {σ : L2.St} {x : Int}, σ[4]? = some (some (.int x)) -> Ev (tCB (fun xs H Q => ∃ i, xs = [.int i] /\ Q (.int (if i < 0 then -i else i)) H) (tCons (tVar 4) tNil)) σ H1 (.int (absI x)) := fun h =>
  ev_cb (ea_cons (ev_var h) ea_nil) fun H2 _ Q q => ⟨_, rfl, q H2 (Ex.refl H2)⟩
 have eint : ∀ {H1 : Hp} {σ : L2.St} {x : Int}, σ[4]? = some (some (.int x)) -> Ev (tCB (fun xs H Q => (∃ i, xs = [.int i] /\ Q (.int i) H) ∨ ∃ k, xs = [.bl k] /\ Q (.int (if k then 1 else 0)) H) (tCons (tVar 4) tNil)) σ H1 (.int x) := fun h =>
  ev_cb (ea_cons (ev_var h) ea_nil) fun H2 _ Q q => .inl ⟨_, rfl, q H2 (Ex.refl H2)⟩
 refine q_asgL (xs := cs.map V.int) ?_ fun p1 H1 n1 e1 h1 => ?_
 ·rw [show cs.map V.int = given (cutV (ns.map V.int) none (some 63)).length (fun _ => true) (fun i => V.int (cs.getD i 0)) by rw [ec, given_all]]
  refine el_lcNL (K := K) (j := 4) (vs := [4]) _ _ (el_sl (te := tVar 0) (ev_var rfl) eo_none (eo_some (i := 63) ev_c) hS) (by rw [ec, core_List_length_map_al]; omega) (fun _ => rfl) (fun i x H1 _ hx => fun H2 _ Q q => q H2 (Ex.refl H2)) (fun i x H1 _ hx _ => ?_)
  rw [ec] at hx
  rw [map_getD hx]
  exact eint rfl
 refine q_asgL (xs := given (cs.map V.int).length (fun i => decide ((10 : Int) ^ (18 : Int).toNat <= absI (cs.getD i 0))) (fun i => V.int (absI (cs.getD i 0)))) ?_ fun p2 H2 n2 e2 h2 => ?_
 ·refine el_lcL (K := K) (j := 4) (vs := [4]) _ _ (ev_var (i := 1) rfl) (sq_of h1) (by rw [core_List_length_map_al]; omega) (fun _ => rfl) (fun i x H1 _ hx => ?_) (fun i x H1 _ hx _ => ?_)
  ·rw [map_getD hx]
   exact et_test (ev_op (eabs rfl) (e18 _ _) rv_I0)
  ·rw [map_getD hx]
   exact eabs rfl
 refine q_asgL (xs := given (cs.map V.int).length (fun i => decide (absI (cs.getD i 0) < (10 : Int) ^ (18 : Int).toNat)) (fun i => V.int (cs.getD i 0 % 1000003))) ?_ fun p3 H3 n3 e3 h3 => ?_
 ·refine el_lcL (K := K) (j := 4) (vs := [4]) _ _ (ev_var (i := 1) rfl) (sq_of (e2 _ _ h1)) (by rw [core_List_length_map_al]; omega) (fun _ => rfl) (fun i x H1 _ hx => ?_) (fun i x H1 _ hx _ => ?_)
  ·rw [map_getD hx]
   exact et_test (ev_op (eabs rfl) (e18 _ _) rv_I0)
  ·rw [map_getD hx]
   exact ev_op (eint rfl) ev_c (rv_I (by show (0 : Int) < 1000003; decide))
 refine s_retL (el_lst (ea_cons (ev_var rfl) (ea_cons (ev_var rfl) (ea_cons ev_c (ea_cons ev_c ea_nil)))) (by show 4 <= 100000; decide)) fun p H4 n4 e4 h4 => ?_
 rw [given_ints] at h2 h3
 refine k p H4 (e1.trans (e2.trans (e3.trans e4))) (fresh_back (e1.trans (e2.trans e3)) n4) ⟨p2, p3, _, _, 0, 0, h4, e4 _ _ (e3 _ _ h2), e4 _ _ h3, fun x hx => ?_, fun x hx => ?_, Int.le_refl 0, Int.le_refl 0, fun z => z (fresh_back e1 n2), fun z => z (fresh_back (e1.trans e2) n3)⟩
 ·obtain ⟨i, hi, rfl⟩ := given_mem hx
  have h := of_decide_eq_true hi
  exact Int.lt_of_lt_of_le (by decide) h
 ·obtain ⟨i, hi, rfl⟩ := given_mem hx
  constructor
  ·exact Int.emod_nonneg _ (by decide)
  ·exact Int.emod_lt_of_pos _ (by decide)
end
end My
namespace Dn
open PySem PySem.Spec PyProof.Rows L2 Evl Cm Dl
open My
open My (top)
section
variable {P : Program} {w : World} {K : PySem.W.Frag} {mg : Str -> Option Value} {base : Heap}
abbrev N_law : List Str := ["_law_script", "_law_spoil", "_law_listed", "_law_wide", "_law_deeds", "_law_asked", "_law_text", "_law_lines", "_law_at", "_law_wrong", "_law_names_here", "_law_pool_here", "_law_k", "_law_deed"]
theorem sc_law : FnScope N_law Q9.h (defScope s_law) := fsc
end
def spLaw (K : PySem.W.Frag) : Sp := fun vs H Q _ => ∃ (a : Addr) (ns : List Int), vs = [.ref a] /\ SqL K H a (ns.map V.int) /\ ns.length <= 63 /\ ∀ H', Q (.bl true) H'
structure DfS (P : Program) (w : World) (K : PySem.W.Frag) (mg : Str -> Option Value) (base : Heap) (k : Nat) (x : Str) (ps : List Str) (sp : Sp) where
 f : Addr
 fd : FuncData
 G : FnOk P w K mg base (L2N.CX P w) k f fd ps sp
 m : mg x = some (.ref f)
 kp : PySem.W.keepIn K (.ref f) = true
 b : Binds K fd ps []
section
variable {P : Program} {w : World} {K : PySem.W.Frag} {mg : Str -> Option Value} {base : Heap}
theorem rels_ints {c : Co} {H : Hp} : ∀ ns : List Int, Rels c H (ns.map AV.int) (ns.map V.int)
 | [] => .nil
 | n :: ns => .cons (.int n) (rels_ints ns)
theorem pool_cor {M : Addr -> Prop} {H : Hp} {p : Addr} (h : PoolAt M H p) : ∃ gr sm n k, Cor ⟨K, [p], fun _ => False, none⟩ [.lst (pl gr sm n k)] H := by
 obtain ⟨g, s, gs, ss, cur, cnt, h⟩ := h
 have hg : g ≠ p := fun e => by
  have h1 := h.great
  rw [e, h.obj] at h1
  exact ref_ne_ints (Option.some.inj h1)
 have hs : s ≠ p := fun e => by
  have h1 := h.small
  rw [e, h.obj] at h1
  exact ref_ne_ints (Option.some.inj h1)
 refine ⟨gs, ss, cur, cnt, rfl, by simp, fun _ _ z => z, fun _ z => z.elim, fun i o a hi ha => ?_⟩
 cases i with
 | zero =>
  cases hi
  cases ha
  refine ⟨_, h.obj, .cons (.lst h.great ⟨by simpa using hg, fun z => z⟩ (rels_ints gs)) (.cons (.lst h.small ⟨by simpa using hs, fun z => z⟩ (rels_ints ss)) (.cons (.int _) (.cons (.int _) .nil)))⟩
 | succ i => cases hi
theorem ok_law (T : TxN mg)
  (D__law_pool : DfS P w K mg base 1 "_law_pool" Q9.h (My.spPool K))
  (D__law_draw : DfN P w K mg base 1 "_law_draw" Q9.b F__law_draw)
  (D__law_names : DfN P w K mg base 3 "_law_names" Q9.f F__law_names)
  (D__law_any_deed : DfN P w K mg base 3 "_law_any_deed" Q9.c F__law_any_deed)
  (D__law_line : DfN P w K mg base 1 "_law_line" Q9.m F__law_line)
  (D_write_deeds : DfN P w K mg base 2 "write_deeds" ["deeds"] F_write_deeds)
  (D__law_same : DfN P w K mg base 21 "_law_same" Q9.a (Fsame 12))
  (D__law_read : DfN P w K mg base 4 "_law_read" Q9.n F__law_read)
  (D__law_wrong_line : DfN P w K mg base 3 "_law_wrong_line" Q9.g F__law_wrong_line)
  {f : Addr} {fd : FuncData} (F : Fun K "law" "law" s_law f fd) : FnOk P w K mg base (L2N.CX P w) 22 f fd Q9.h (spLaw K) := by
 refine okC_fun F sc_law (fun vs H Q E h => ?_) (fun cdv A outer s H vs Q E hr h => ?_)
 ·obtain ⟨a, ns, rfl, _⟩ := h
  rfl
 obtain ⟨a, ns, rfl, hS, hl, k⟩ := h
 refine ⟨_, (pss_cons_al (ps_asg (pe_callS (E := WE (WO E)) D__law_pool.G (rmo hr) rfl D__law_pool.m D__law_pool.kp D__law_pool.b (psR rfl rfl rfl rfl) (by exact (pa_cons_al (pv 0) pa_nil_al))) (pg_name (i := 11) sc_law.nd rfl (Or.inr rfl)))
 (pss_cons_al (ps_asg (pe_cmpR (k_eq rfl (u65 hr)) (pe_callS (E := WE (WO E)) D__law_draw.G (rmo hr) rfl D__law_draw.m D__law_draw.kp D__law_draw.b (psR rfl rfl rfl rfl) (by exact (pa_cons_al (pv 11) (pa_cons_al pe_int pa_nil_al)))) pe_int (nomark _)) (pgn (i := 1) sc_law.nd))
 (pss_cons_al (ps_asg (pe_cmpR (k_eq rfl (u65 hr)) (pe_callS (E := WE (WO E)) D__law_draw.G (rmo hr) rfl D__law_draw.m D__law_draw.kp D__law_draw.b (psR rfl rfl rfl rfl) (by exact (pa_cons_al (pv 11) (pa_cons_al pe_int pa_nil_al)))) pe_int (nomark _)) (pgn (i := 2) sc_law.nd))
 (pss_cons_al (ps_asg (pe_callS (E := WE (WO E)) D__law_names.G (rmo hr) rfl D__law_names.m D__law_names.kp D__law_names.b (psR rfl rfl rfl rfl) (by exact (pa_cons_al (pv 11) (pa_cons_al (pe_op (k_add rfl) pe_int (pe_callS (E := WE (WO E)) D__law_draw.G (rmo hr) rfl D__law_draw.m D__law_draw.kp D__law_draw.b (psR rfl rfl rfl rfl) (by exact (pa_cons_al (pv 11) (pa_cons_al pe_int pa_nil_al))))) pa_nil_al)))) (pg_name (i := 10) sc_law.nd rfl (Or.inr rfl)))
 (pss_cons_al (ps_setLc (i := 3) (own := [("_law_k", 12)]) (g := (gName 12)) (tt := tYes) rfl sc_law.nd rfl rfl (sw_true rfl rfl rfl (by decide +kernel)) (pi_range1 (by rfl) T.b_range (pa_cons_al (pe_callS (E := WE (WO E)) D__law_draw.G (rmo hr) rfl D__law_draw.m D__law_draw.kp D__law_draw.b (psR rfl rfl rfl rfl) (by exact (pa_cons_al (pv 11) (pa_cons_al pe_int pa_nil_al)))) pa_nil_al)) (blkOk_by (own := [("_law_k", 12)]) (N := N_law) (sc := defScope s_law) (by decide +kernel)) (fun _ _ _ _ _ => (pgn (i := 12) sc_law.nd)) (fun _ _ _ _ _ => pts_nil) (fun _ _ _ _ _ => (pe_callS (E := WE W0) D__law_any_deed.G (rmo hr) rfl D__law_any_deed.m D__law_any_deed.kp D__law_any_deed.b (fun σ => pass_no σ) (by exact (pa_cons_al (pv 11) (pa_cons_al (pv 10) (pa_cons_al pe_int pa_nil_al)))))))
 (pss_cons_al (ps_setLc (i := 4) (own := [("_law_k", 12)]) (g := (gName 12)) (tt := tYes) rfl sc_law.nd rfl rfl (sw_true rfl rfl rfl (by decide +kernel)) (pi_range1 (by rfl) T.b_range (pa_cons_al (pe_callS (E := WE (WO E)) D__law_draw.G (rmo hr) rfl D__law_draw.m D__law_draw.kp D__law_draw.b (psR rfl rfl rfl rfl) (by exact (pa_cons_al (pv 11) (pa_cons_al pe_int pa_nil_al)))) pa_nil_al)) (blkOk_by (own := [("_law_k", 12)]) (N := N_law) (sc := defScope s_law) (by decide +kernel)) (fun _ _ _ _ _ => (pgn (i := 12) sc_law.nd)) (fun _ _ _ _ _ => pts_nil) (fun _ _ _ _ _ => (pe_callS (E := WE W0) D__law_any_deed.G (rmo hr) rfl D__law_any_deed.m D__law_any_deed.kp D__law_any_deed.b (fun σ => pass_no σ) (by exact (pa_cons_al (pv 11) (pa_cons_al (pv 10) (pa_cons_al pe_int pa_nil_al)))))))
 (pss_cons_al (ps_asg (pe_callTy (k_tup rfl) (by rfl) T.b_tuple (by decide +kernel) (pa_cons_al (pv 4) pa_nil_al)) (pgn (i := 5) sc_law.nd))
 (pss_cons_al (ps_if (k_truth rfl (pv 2)) (pss_one (ps_asg (pe_callTy (k_list rfl) (by rfl) T.b_list (by decide +kernel) (pa_cons_al (pv 4) pa_nil_al)) (pgn (i := 5) sc_law.nd))) pss_nil)
 (pss_cons_al (ps_asg (k_bm (K := K) rfl PySem.F.plainAttrs_str PySem.F.slot_str_join PySem.F.type_str_join mt_joinR pe_str (pa_cons_al (pe_lc (own := [("_law_deed", 13)]) (g := (gName 13)) (tt := tYes) rfl sc_law.nd (k_each rfl (pv 4)) (blkOk_by (own := [("_law_deed", 13)]) (N := N_law) (sc := defScope s_law) (by decide +kernel)) (fun _ _ _ _ _ => (pgn (i := 13) sc_law.nd)) (fun _ _ _ _ _ => pts_nil) (fun _ _ _ _ _ => (pe_callS (E := WE W0) D__law_line.G (rmo hr) rfl D__law_line.m D__law_line.kp D__law_line.b (fun σ => pass_no σ) (by exact (pa_cons_al (pv 13) pa_nil_al))))) pa_nil_al)) (pgn (i := 6) sc_law.nd))
 (pss_cons_al (ps_if (PW.pt (pw_or (pt_not (pt_val (pe_callS (E := WE (WO E)) D__law_same.G (rmo hr) rfl D__law_same.m D__law_same.kp D__law_same.b (psR rfl rfl rfl rfl) (by exact (pa_cons_al (pe_callS (E := WE (WO E)) D_write_deeds.G (rmo hr) rfl D_write_deeds.m D_write_deeds.kp D_write_deeds.b (psR rfl rfl rfl rfl) (by exact (pa_cons_al (pv 5) pa_nil_al))) (pa_cons_al (pv 6) pa_nil_al)))))) (pw_or1 (pt_cmpR (k_ne rfl (u65 hr)) (pe_callTy (k_list rfl) (by rfl) T.b_list (by decide +kernel) (pa_cons_al (pv 5) pa_nil_al)) (pv 4) (nomark _))))) (pss_one (ps_ret pe_bl)) pss_nil)
 (pss_cons_al (ps_if (pt_not (pt_val (pe_callS (E := WE (WO E)) D__law_same.G (rmo hr) rfl D__law_same.m D__law_same.kp D__law_same.b (psR rfl rfl rfl rfl) (by exact (pa_cons_al (pe_callS (E := WE (WO E)) D__law_read.G (rmo hr) rfl D__law_read.m D__law_read.kp D__law_read.b (psR rfl rfl rfl rfl) (by exact (pa_cons_al (pv 6) pa_nil_al))) (pa_cons_al (pe_tup (pa_cons_al pe_str (pa_cons_al (pe_callTy (k_tup rfl) (by rfl) T.b_tuple (by decide +kernel) (pa_cons_al (pv 4) pa_nil_al)) pa_nil_al))) pa_nil_al)))))) (pss_one (ps_ret pe_bl)) pss_nil)
 (pss_cons_al (ps_setLc (i := 7) (own := [("_law_deed", 13)]) (g := (gName 13)) (tt := tYes) rfl sc_law.nd rfl rfl (sw_true rfl rfl rfl (by decide +kernel)) (k_each rfl (pv 3)) (blkOk_by (own := [("_law_deed", 13)]) (N := N_law) (sc := defScope s_law) (by decide +kernel)) (fun _ _ _ _ _ => (pgn (i := 13) sc_law.nd)) (fun _ _ _ _ _ => pts_nil) (fun _ _ _ _ _ => (pe_callS (E := WE W0) D__law_line.G (rmo hr) rfl D__law_line.m D__law_line.kp D__law_line.b (fun σ => pass_no σ) (by exact (pa_cons_al (pv 13) pa_nil_al)))))
 (pss_cons_al (ps_if (pt_not (pt_val (pe_callS (E := WE (WO E)) D__law_same.G (rmo hr) rfl D__law_same.m D__law_same.kp D__law_same.b (psR rfl rfl rfl rfl) (by exact (pa_cons_al (pe_callS (E := WE (WO E)) D__law_read.G (rmo hr) rfl D__law_read.m D__law_read.kp D__law_read.b (psR rfl rfl rfl rfl) (by exact (pa_cons_al (k_bm (K := K) rfl PySem.F.plainAttrs_str PySem.F.slot_str_join PySem.F.type_str_join mt_joinR pe_str (pa_cons_al (pv 7) pa_nil_al)) pa_nil_al))) (pa_cons_al (pe_tup (pa_cons_al pe_str (pa_cons_al (pe_callTy (k_tup rfl) (by rfl) T.b_tuple (by decide +kernel) (pa_cons_al (pv 3) pa_nil_al)) pa_nil_al))) pa_nil_al)))))) (pss_one (ps_ret pe_bl)) pss_nil)
 (pss_cons_al (ps_if (PW.pt (pw_and (k_truth rfl (pv 1)) (pw_and1 (pt_cmpR op_gt (pe_callB (k_len rfl) (by rfl) T.b_len (by decide +kernel) (pa_cons_al (pv 7) pa_nil_al)) pe_int (nomark _))))) (pss_cons_al (ps_asg (pe_callS (E := WE (WO E)) D__law_draw.G (rmo hr) rfl D__law_draw.m D__law_draw.kp D__law_draw.b (psR rfl rfl rfl rfl) (by exact (pa_cons_al (pv 11) (pa_cons_al (pe_callB (k_len rfl) (by rfl) T.b_len (by decide +kernel) (pa_cons_al (pv 7) pa_nil_al)) pa_nil_al)))) (pgn (i := 8) sc_law.nd))
 (pss_cons_al (ps_asg (pe_callS (E := WE (WO E)) D__law_wrong_line.G (rmo hr) rfl D__law_wrong_line.m D__law_wrong_line.kp D__law_wrong_line.b (psR rfl rfl rfl rfl) (by exact (pa_cons_al (pv 11) (pa_cons_al (pqi rfl hr (pv 3) (pv 8)) pa_nil_al)))) (pgn (i := 9) sc_law.nd))
 (pss_cons_al (ps_if (PW.pt (pw_and (pt_cmpR (k_eq rfl (u65 hr)) (pv 9) pe_str (nomark _)) (pw_and1 (pt_cmpR (k_eq rfl (u65 hr)) (pe_callB (k_len rfl) (by rfl) T.b_len (by decide +kernel) (pa_cons_al (pv 7) pa_nil_al)) pe_int (nomark _))))) (pss_one (ps_ret (pe_callS (E := WE (WO E)) D__law_same.G (rmo hr) rfl D__law_same.m D__law_same.kp D__law_same.b (psR rfl rfl rfl rfl) (by exact (pa_cons_al (pe_callS (E := WE (WO E)) D__law_read.G (rmo hr) rfl D__law_read.m D__law_read.kp D__law_read.b (psR rfl rfl rfl rfl) (by exact (pa_cons_al pe_str pa_nil_al))) (pa_cons_al (pe_tup (pa_cons_al pe_str (pa_cons_al pe_int pa_nil_al))) pa_nil_al)))))) pss_nil)
 (pss_cons_al (ps_if (pt_cmpR (k_eq rfl (u65 hr)) (pe_callS (E := WE (WO E)) D__law_draw.G (rmo hr) rfl D__law_draw.m D__law_draw.kp D__law_draw.b (psR rfl rfl rfl rfl) (by exact (pa_cons_al (pv 11) (pa_cons_al pe_int pa_nil_al)))) pe_int (nomark _)) (pss_one (ps_asg (pe_op (k_add rfl) (pe_op (k_add rfl) (pe_slice (k_sl rfl) (pv 7) po_none (po_some (pv 8))) (pe_lst (pa_cons_al (pv 9) pa_nil_al))) (pe_slice (k_sl rfl) (pv 7) (po_some (pe_op (k_add rfl) (pv 8) pe_int)) po_none)) (pgn (i := 7) sc_law.nd))) (pss_one (ps_asg (pe_op (k_add rfl) (pe_op (k_add rfl) (pe_slice (k_sl rfl) (pv 7) po_none (po_some (pv 8))) (pe_lst (pa_cons_al (pv 9) pa_nil_al))) (pe_slice (k_sl rfl) (pv 7) (po_some (pv 8)) po_none)) (pgn (i := 7) sc_law.nd))))
 (pss_cons_al (ps_if (pt_cmpR (k_eq rfl (u65 hr)) (pe_callS (E := WE (WO E)) D__law_draw.G (rmo hr) rfl D__law_draw.m D__law_draw.kp D__law_draw.b (psR rfl rfl rfl rfl) (by exact (pa_cons_al (pv 11) (pa_cons_al pe_int pa_nil_al)))) pe_int (nomark _)) (pss_one (ps_expr (k_bm (K := K) rfl core_PySem_F_plainAttrs_list_al core_PySem_F_slot_list_append_al core_PySem_F_type_list_append_al mt_append (pv 7) (pa_cons_al pe_str pa_nil_al)))) pss_nil)
 (pss_one (ps_ret (pe_callS (E := WE (WO E)) D__law_same.G (rmo hr) rfl D__law_same.m D__law_same.kp D__law_same.b (psR rfl rfl rfl rfl) (by exact (pa_cons_al (pe_callS (E := WE (WO E)) D__law_read.G (rmo hr) rfl D__law_read.m D__law_read.kp D__law_read.b (psR rfl rfl rfl rfl) (by exact (pa_cons_al (k_bm (K := K) rfl PySem.F.plainAttrs_str PySem.F.slot_str_join PySem.F.type_str_join mt_joinR pe_str (pa_cons_al (pv 7) pa_nil_al)) pa_nil_al))) (pa_cons_al (pe_tup (pa_cons_al pe_str (pa_cons_al (pe_op (k_add rfl) (pv 8) pe_int) pa_nil_al))) pa_nil_al))))))))))) pss_nil)
 (pss_one (ps_ret (pe_callS (E := WE (WO E)) D__law_same.G (rmo hr) rfl D__law_same.m D__law_same.kp D__law_same.b (psR rfl rfl rfl rfl) (by exact (pa_cons_al (pe_callS (E := WE (WO E)) D__law_read.G (rmo hr) rfl D__law_read.m D__law_read.kp D__law_read.b (psR rfl rfl rfl rfl) (by exact (pa_cons_al (pe_op (k_add rfl) (pv 6) pe_str) pa_nil_al))) (pa_cons_al (pe_ifExp (pt_cmpR op_gt (pe_callB (k_len rfl) (by rfl) T.b_len (by decide +kernel) (pa_cons_al (pv 4) pa_nil_al)) pe_int (nomark _)) (pe_tup (pa_cons_al pe_str (pa_cons_al (pe_callB (call_max2 rfl) (by rfl) T.b_max (by decide +kernel) (pa_cons_al pe_int (pa_cons_al (pe_op (k_add rfl) (pe_callB (k_len rfl) (by rfl) T.b_len (by decide +kernel) (pa_cons_al (pv 4) pa_nil_al)) pe_int) pa_nil_al))) pa_nil_al))) (pe_tup (pa_cons_al pe_str (pa_cons_al pe_int pa_nil_al)))) pa_nil_al)))))))))))))))))))), ?_⟩
 refine ⟨.ref a, rfl, a, ns, rfl, hS, hl, fun p H' ex hp pool => ?_⟩
 obtain ⟨gr, sm, n, kk, cor⟩ := pool_cor (K := K) pool
 obtain ⟨S', e⟩ := law_rest_ev (sc := .opq a) (S1 := [.lst (pl gr sm n kk)]) (p := 0) ⟨gr, sm, n, kk, rfl⟩
 have r0 : Rel ⟨K, [p], fun _ => False, none⟩ H' (.opq a) (.ref a) := .opq a
 have env0 := env_start (N := N_law) (Rels.cons r0 .nil)
 have env1 := env0.set (i := 11) (x := .ref 0) (v := .ref p) (.ref rfl)
 refine (show SS (WO E) K _ d_law_rest from   (ss_seq (ss_asg (se_op so_eq (se_call (sa_cons se_var (sa_cons se_int sa_nil))) se_int) sg_name)
 (ss_seq (ss_asg (se_op so_eq (se_call (sa_cons se_var (sa_cons se_int sa_nil))) se_int) sg_name)
 (ss_seq (ss_asg (se_call (sa_cons se_var (sa_cons (se_op so_add se_int (se_call (sa_cons se_var (sa_cons se_int sa_nil)))) sa_nil))) sg_name)
 (ss_seq (ss_asg (se_fz (sl_lc (vs := [12]) (si_rng1 (sa_cons (se_call (sa_cons se_var (sa_cons se_int sa_nil))) sa_nil)) sg_name gw_name gm_name st_yes (se_call (sa_cons se_var (sa_cons se_var (sa_cons se_int sa_nil)))))) sg_name)
 (ss_seq (ss_asg (se_fz (sl_lc (vs := [12]) (si_rng1 (sa_cons (se_call (sa_cons se_var (sa_cons se_int sa_nil))) sa_nil)) sg_name gw_name gm_name st_yes (se_call (sa_cons se_var (sa_cons se_var (sa_cons se_int sa_nil)))))) sg_name)
 (ss_seq (ss_asg (se_cb sc_tupL (sa_cons se_var sa_nil)) sg_name)
 (ss_seq (ss_if (st_truth se_var) (ss_asg (se_fz (sl_list (sa_cons se_var sa_nil))) sg_name) ss_next)
 (ss_seq (ss_asg (se_bm se_str (sa_cons (se_fz (sl_lc (vs := [13]) (si_any se_var) sg_name gw_name gm_name st_yes (se_call (sa_cons se_var sa_nil)))) sa_nil) sm_join) sg_name)
 (ss_seq (ss_if (st_or (st_not (st_B (se_call (sa_cons (se_call (sa_cons se_var sa_nil)) (sa_cons se_var sa_nil))))) (st_test (se_op so_eq (se_fz (sl_list (sa_cons se_var sa_nil))) se_var))) (ss_ret se_bl) ss_next)
 (ss_seq (ss_if (st_not (st_B (se_call (sa_cons (se_call (sa_cons se_var sa_nil)) (sa_cons (se_tup (sa_cons se_str (sa_cons (se_cb sc_tupL (sa_cons se_var sa_nil)) sa_nil))) sa_nil))))) (ss_ret se_bl) ss_next)
 (ss_seq (ss_asg (se_th (sl_lc (vs := [13]) (si_any se_var) sg_name gw_name gm_name st_yes (se_call (sa_cons se_var sa_nil)))) sg_name)
 (ss_seq (ss_if (st_not (st_B (se_call (sa_cons (se_call (sa_cons (se_bm se_str (sa_cons se_var sa_nil) sm_join) sa_nil)) (sa_cons (se_tup (sa_cons se_str (sa_cons (se_cb sc_tupL (sa_cons se_var sa_nil)) sa_nil))) sa_nil))))) (ss_ret se_bl) ss_next)
 (ss_seq (ss_if (st_and (st_truth se_var) (st_test (se_op so_gt (se_cb sc_len (sa_cons se_var sa_nil)) se_int))) (ss_seq (ss_asg (se_call (sa_cons se_var (sa_cons (se_cb sc_len (sa_cons se_var sa_nil)) sa_nil))) sg_name)
 (ss_seq (ss_asg (se_call (sa_cons se_var (sa_cons (se_op so_ix se_var se_var) sa_nil))) sg_name)
 (ss_seq (ss_if (st_and (st_test (se_op so_eq se_var se_str)) (st_test (se_op so_eq (se_cb sc_len (sa_cons se_var sa_nil)) se_int))) (ss_ret (se_call (sa_cons (se_call (sa_cons se_str sa_nil)) (sa_cons (se_tup (sa_cons se_str (sa_cons se_int sa_nil))) sa_nil)))) ss_next)
 (ss_seq (ss_if (st_test (se_op so_eq (se_call (sa_cons se_var (sa_cons se_int sa_nil))) se_int)) (ss_asg (se_th (sl_addL (se_op so_add (se_sl se_var sp_none (sp_some se_var)) (se_lst (sa_cons se_var sa_nil))) (se_sl se_var (sp_some (se_op so_add se_var se_int)) sp_none))) sg_name) (ss_asg (se_th (sl_addL (se_op so_add (se_sl se_var sp_none (sp_some se_var)) (se_lst (sa_cons se_var sa_nil))) (se_sl se_var (sp_some se_var) sp_none))) sg_name))
 (ss_seq (ss_if (st_test (se_op so_eq (se_call (sa_cons se_var (sa_cons se_int sa_nil))) se_int)) (ss_drop (se_bm se_var (sa_cons se_str sa_nil) sm_append)) ss_next)
 (ss_ret (se_call (sa_cons (se_call (sa_cons (se_bm se_str (sa_cons se_var sa_nil) sm_join) sa_nil)) (sa_cons (se_tup (sa_cons se_str (sa_cons (se_op so_add se_var se_int) sa_nil))) sa_nil))))))))) ss_next)
 (ss_ret (se_call (sa_cons (se_call (sa_cons (se_op so_add se_var se_str) sa_nil)) (sa_cons (se_if (st_test (se_op so_gt (se_cb sc_len (sa_cons se_var sa_nil)) se_int)) (se_tup (sa_cons se_str (sa_cons (se_cb sc_max2 (sa_cons se_int (sa_cons (se_op so_add (se_cb sc_len (sa_cons se_var sa_nil)) se_int) sa_nil))) sa_nil))) (se_tup (sa_cons se_str (sa_cons se_int sa_nil)))) sa_nil)))))))))))))))))) _ [.lst (pl gr sm n kk)] ⟨K, [p], fun _ => False, none⟩ _ H' _ rfl cor env1 ?_
 show SP _ H' (WO E) _ (d_law_rest [some (.opq a), none, none, none, none, none, none, none, none, none, none, some (.ref 0), none, none] [.lst (pl gr sm n kk)])
 rw [e]
 intro c1 H1 u n1 k1 r1
 cases r1
 exact k H1
end
end Dn
namespace Hf
open PySem PySem.Spec PyProof.Rows L2 He Cm Dl HandSHeadRun
theorem excB_ok {K : PySem.W.Frag} {C S : Addr} (q : excB K C S = true) : ∃ nm q N bs sn sub ab col dd k0 k1 k2 k3 k5, K.lookup C = some (excClassObj nm q C N bs [.ref S, .type "ValueError", .type "Exception", .type "BaseException", .type "object"] true sn sub ab col dd k0 k1 k2 k3 k5 "ValueError.__new__") := by
 unfold excB at q
 split at q
 next t dd cd sl ho =>
  split at q
  next C' S' a b c d k0 k1 k2 k3 n k5 hm hs =>
   simp only [Bool.and_eq_true, decide_eq_true_eq, Bool.not_eq_true'] at q
   obtain ⟨rfl, rfl, rfl, rfl, rfl, rfl, rfl, rfl, hdel, hdi⟩ := q
   obtain ⟨nm, bs, mro, ns, qn, hd, sn, sub, ab, col, del⟩ := cd
   dsimp only at hm hdel hdi
   subst hm hdel hdi
   have hsl : sl = #[k0, k1, k2, k3, some (.builtin "ValueError.__new__"), k5] := by
    obtain ⟨l⟩ := sl
    simp only at hs
    rw [hs]
   subst hsl
   exact ⟨nm, qn, ns, bs, sn, sub, ab, col, dd, k0, k1, k2, k3, k5, ho⟩
  next => cases q
 next => cases q
theorem xc_ok {K : PySem.W.Frag} {x y : Str} (q : xcB x y K = true) : XC K (ga K x) (ga K y) := by
 obtain ⟨q1, q⟩ := ba q
 obtain ⟨q2, q⟩ := ba q
 obtain ⟨q3, q⟩ := ba q
 obtain ⟨q4, q⟩ := ba q
 obtain ⟨q5, q6⟩ := ba q
 exact ⟨excB_ok q1, eqO_ok q2, eqO_ok q3, eqO_ok q4, eqO_ok q5, q6⟩
theorem sup_ok {K : PySem.W.Frag} {mg : Str -> Option Value} {x : Str} (m : mg x = some (.ref (ga K x))) (q : supB x K = true) : Sup K mg x (ga K x) /\ SC K (ga K x) := by
 obtain ⟨q1, q⟩ := ba q
 obtain ⟨q2, q⟩ := ba q
 obtain ⟨q3, q⟩ := ba q
 obtain ⟨q4, q5⟩ := ba q
 refine ⟨⟨m, ⟨q1, eqO_ok q2⟩, ?_⟩, ⟨q4, of_decide_eq_true q5⟩⟩
 split at q3
 next b e =>
  rw [e, of_decide_eq_true q3]
 next => cases q3
theorem ob_ok {K : PySem.W.Frag} (q : obB K = true) : Obc K := by
 obtain ⟨q1, q2⟩ := ba q
 exact ⟨eqO_ok q1, of_decide_eq_true q2⟩
theorem ic_ok {K : PySem.W.Frag} {x : Str} (q : icB x K = true) : PySem.W.findIn K (.ref (ga K x)) "__init__" = some (some (.ref (ma K (ga K x) "__init__"))) /\ PySem.W.typeIn K (.ref (ma K (ga K x) "__init__")) = some (.type "function") := by
 obtain ⟨q1, q2⟩ := ba q
 exact ⟨eqO_ok q1, of_decide_eq_true q2⟩
theorem fun_of {K : PySem.W.Frag} {x q : Str} {st : Stmt} {f : Addr} {fd : FuncData} (F : FunD K x q (defArgs st) (defBody st) (defScope st) [] [] f fd) : Fun K x q st f fd := by
 obtain ⟨⟨oc, od, dV, kV, doc, pm, an, cdv, ct, osl, e, lk, hcd, hD, hK⟩, kp⟩ := F
 rcases hD with ⟨_, h⟩ | ⟨h, _⟩
 ·subst h
  exact ⟨⟨oc, od, kV, doc, pm, an, cdv, ct, osl, e, lk, hcd⟩, kp⟩
 ·exact absurd rfl h
def Says (p : Pt) (w : World) (K : PySem.W.Frag) : Prop := p.obs K = p.val w
section
variable {p : Pt} {w : World} {K : PySem.W.Frag}
theorem Says.all (c : Says p w K) : (p.fa.all fun f => f.ok K) = true /\ (p.ex.all fun f => f K) = true /\ (p.fn.all fun d => d.ok K) = true := by
 obtain ⟨c1, c⟩ := ba (show ((p.fa.all fun f => f.ok K) && ((p.ex.all fun f => f K) && p.fn.all fun d => d.ok K)) = true from congrArg (fun z : AlP => z.1) c)
 obtain ⟨c2, c3⟩ := ba c
 exact ⟨c1, c2, c3⟩
theorem Says.fact (c : Says p w K) (i : Nat) {f : Fa} (h : p.fa[i]? = some f := by rfl) : f.ok K = true := List.all_eq_true.mp c.all.1 f (core_List_mem_of_getElem__al h)
theorem Says.exo (c : Says p w K) (i : Nat) {f : PySem.W.Frag -> Bool} (h : p.ex[i]? = some f := by rfl) : f K = true := List.all_eq_true.mp c.all.2.1 f (core_List_mem_of_getElem__al h)
theorem Says.def_ (c : Says p w K) (i : Nat) {d : DefD} (h : p.fn[i]? = some d := by rfl) : ∃ fd, FunD K d.name d.qual d.params d.body d.scope (d.dvs K) (d.kws K) (fAd K d.at_) fd := by
 have e : p.fn.map (fun d => fnW K d.at_) = p.fn.map DefD.val := congrArg (fun z : AlP => z.2.1) c
 have e2 : (p.fn.map fun d => fnW K d.at_)[i]? = (p.fn.map DefD.val)[i]? := by rw [e]
 rw [core_List_getElem__map_al, core_List_getElem__map_al, h] at e2
 exact DefD.funD (Option.some.inj e2) (List.all_eq_true.mp c.all.2.2 d (core_List_mem_of_getElem__al h))
theorem Says.tab (c : Says p w K) (i : Nat) {t : Tab} (h : p.ts[i]? = some t := by rfl) : dicW K (t.1 K) = some (keysIn w.params t.2) := by
 have e : p.ts.map (fun t => dicW K (t.1 K)) = p.ts.map fun t => some (keysIn w.params t.2) := congrArg (fun z : AlP => z.2.2) c
 have e2 : (p.ts.map fun t => dicW K (t.1 K))[i]? = (p.ts.map fun t => some (keysIn w.params t.2))[i]? := by rw [e]
 rw [core_List_getElem__map_al, core_List_getElem__map_al, h] at e2
 exact Option.some.inj e2
end
theorem ob_eq (as : List Addr) (ps : List Pt) (s : PySem.W.SharedT) : ob as ps s = (hook as ps).obs s.abs := by
 have e : getT s = s.abs.heap.get? := funext (getT_eq s)
 unfold ob
 rw [e] <;> rfl
theorem says_of {as : List Addr} {ps : List Pt} {w : World} {h : Heap} (Y : (hook as ps).says w h) : ∃ K : PySem.W.Frag, K.In h /\ ∀ (i : Nat) (p : Pt), ps[i]? = some p -> Says p w K := by
 obtain ⟨K, hK, c⟩ := Y
 refine ⟨K, hK, fun i p hp => ?_⟩
 have e2 : (ps.map fun p => p.obs K)[i]? = (ps.map fun p => p.val w)[i]? := by rw [c]
 rw [core_List_getElem__map_al, core_List_getElem__map_al, hp] at e2
 exact Option.some.inj e2
theorem walk {l : PySem.W.OpenLaw} {n k : Nat} {q : Program} {loose : List Str} {XP : (Str -> Option Value) -> Heap -> Prop} {YP : World -> Heap -> Prop} {d : DefRec} {x : Str}
  (hn : l.most = some n) (hn2 : n <= sizeLine) (hdf : d.params.defaults = []) (hr : Room k callerA)
  (F : ∀ (w : World) (mg : Str -> Option Value) (fa : Addr) (h : Heap), YP w h -> h.Ns mainGlobals mg -> mg d.name = some (.ref fa) ->
   ∃ (K : PySem.W.Frag) (fd : FuncData) (sp : Sp), K.In h /\ (∀ (s : Shared) (u : Value), BindsTo s fd ⟨[u], []⟩ [(x, u)]) /\
    (∀ (H : Hp) (a : Addr) (ns : List Int), ns.length <= n -> SqL K H a (ns.map V.int) -> sp [.ref a] H (fun v _ => v = .bl true) fun _ _ _ => False) /\
    ∀ base : Heap, K.In base -> base.Ns mainGlobals mg -> FnOk l.prog w K mg base (L2N.CX l.prog w) k fa fd [x] sp) :
  PySem.W.WalkO q loose XP YP l.row.toRowW d [] (fun f vs => PySem.call f vs) :=
 Att.attach_call hn hdf fun w s₀ s₁ mg mb fa o pm cd doc a vs ns G Y ho hd hcd hmg hobj hints hlen hg => by
  obtain ⟨K, fd, sp, KX, hb, hsp, hF⟩ := F w mg fa _ Y G.T.g hmg
  refine law_call KX G.T.g G.T.b G.T.builtins G.T.nolimit hg hobj hints (core_Nat_le_trans_al hlen hn2) hr hF hb (fun H hO hS => hsp H a ns hlen hS) fun H e s' z => ?_
  obtain ⟨_, _, _, _, _, _, _, _, _, _, _, _, z⟩ := z
  exact z
theorem fd_ {p : Pt} {w : World} {K : PySem.W.Frag} {x : Str} {s : Stmt} (c : Says p w K) (i : Nat) (h : p.fn[i]? = some (dd x s) := by rfl) : ∃ fd, Fun K x x s (ga K x) fd := by
 obtain ⟨fd, G⟩ := c.def_ i h
 exact ⟨fd, fun_of G⟩
theorem fm_ {p : Pt} {w : World} {K : PySem.W.Frag} {C m q : Str} {s : Stmt} (c : Says p w K) (i : Nat) (h : p.fn[i]? = some (dm C m q s) := by rfl) : ∃ fd, Fun K m q s (ma K (ga K C) m) fd := by
 obtain ⟨fd, G⟩ := c.def_ i h
 exact ⟨fd, fun_of G⟩
end Hf
namespace My
open PySem PySem.Spec PyProof.Rows L2 Evl Cm Dl
section
variable {P : Program} {w : World} {K : PySem.W.Frag} {mg : Str -> Option Value} {base : Heap}
theorem bad_ok {k : Nat} {f : Addr} {fd : FuncData} {ps : List Str} {n : Nat} : FnOk P w K mg base (L2N.CX P w) k f fd ps (conc K n fun _ _ => .bad) :=
 ⟨fun vs H Q E h => by obtain ⟨_, _, _, _, _, _, _, h⟩ := h; exact False.elim h, fun A outer s H args us vs Q E _ _ _ _ h => by obtain ⟨_, _, _, _, _, _, _, h⟩ := h; exact False.elim h⟩
theorem bl1 {p : List Value -> Prop} (h : ∀ a0, p [a0]) (us : List Value) (hl : us.length = 1) : p us := match us, hl with | [a0], _ => h a0
theorem bl2 {p : List Value -> Prop} (h : ∀ a0 a1, p [a0, a1]) (us : List Value) (hl : us.length = 2) : p us := match us, hl with | [a0, a1], _ => h a0 a1
theorem bl3 {p : List Value -> Prop} (h : ∀ a0 a1 a2, p [a0, a1, a2]) (us : List Value) (hl : us.length = 3) : p us := match us, hl with | [a0, a1, a2], _ => h a0 a1 a2
theorem bd__law_pool {f : Addr} {fd : FuncData} (F : Fun K "_law_pool" "_law_pool" My.s__law_pool f fd) : Binds K fd Q9.h [] := F.binds fun _ _ _ _ _ _ => bl1 fun _ => rfl
theorem bd__law_draw {f : Addr} {fd : FuncData} (F : Fun K "_law_draw" "_law_draw" Dn.s__law_draw f fd) : Binds K fd Q9.b [] := F.binds fun _ _ _ _ _ _ => bl2 fun _ _ => rfl
theorem bd__law_name {f : Addr} {fd : FuncData} (F : Fun K "_law_name" "_law_name" Dn.s__law_name f fd) : Binds K fd Q9.e [] := F.binds fun _ _ _ _ _ _ => bl2 fun _ _ => rfl
theorem bd__law_names {f : Addr} {fd : FuncData} (F : Fun K "_law_names" "_law_names" Dn.s__law_names f fd) : Binds K fd Q9.f [] := F.binds fun _ _ _ _ _ _ => bl2 fun _ _ => rfl
theorem bd__law_pick {f : Addr} {fd : FuncData} (F : Fun K "_law_pick" "_law_pick" Dn.s__law_pick f fd) : Binds K fd Q9.d [] := F.binds fun _ _ _ _ _ _ => bl2 fun _ _ => rfl
theorem bd__law_any_deed {f : Addr} {fd : FuncData} (F : Fun K "_law_any_deed" "_law_any_deed" Dn.s__law_any_deed f fd) : Binds K fd Q9.c [] := F.binds fun _ _ _ _ _ _ => bl3 fun _ _ _ => rfl
theorem bd__law_line {f : Addr} {fd : FuncData} (F : Fun K "_law_line" "_law_line" Dn.s__law_line f fd) : Binds K fd Q9.m [] := F.binds fun _ _ _ _ _ _ => bl1 fun _ => rfl
theorem bd_write_deed {f : Addr} {fd : FuncData} (F : Fun K "write_deed" "write_deed" Dn.s_write_deed f fd) : Binds K fd ["deed"] [] := F.binds fun _ _ _ _ _ _ => bl1 fun _ => rfl
theorem bd_write_deeds {f : Addr} {fd : FuncData} (F : Fun K "write_deeds" "write_deeds" Dn.s_write_deeds f fd) : Binds K fd ["deeds"] [] := F.binds fun _ _ _ _ _ _ => bl1 fun _ => rfl
theorem bd__law_same {f : Addr} {fd : FuncData} (F : Fun K "_law_same" "_law_same" Dn.s__law_same f fd) : Binds K fd Q9.a [] := F.binds fun _ _ _ _ _ _ => bl2 fun _ _ => rfl
theorem bd_is_name {f : Addr} {fd : FuncData} (F : Fun K "is_name" "is_name" Dn.s_is_name f fd) : Binds K fd ["value"] [] := F.binds fun _ _ _ _ _ _ => bl1 fun _ => rfl
theorem bd_is_digit {f : Addr} {fd : FuncData} (F : Fun K "is_digit" "is_digit" Dn.s_is_digit f fd) : Binds K fd ["part"] [] := F.binds fun _ _ _ _ _ _ => bl1 fun _ => rfl
theorem bd_read_deed {f : Addr} {fd : FuncData} (F : Fun K "read_deed" "read_deed" Dn.s_read_deed f fd) : Binds K fd ["line"] [] := F.binds fun _ _ _ _ _ _ => bl1 fun _ => rfl
theorem bd_read_deeds {f : Addr} {fd : FuncData} (F : Fun K "read_deeds" "read_deeds" Dn.s_read_deeds f fd) : Binds K fd ["text"] [] := F.binds fun _ _ _ _ _ _ => bl1 fun _ => rfl
theorem bd__law_read {f : Addr} {fd : FuncData} (F : Fun K "_law_read" "_law_read" Dn.s__law_read f fd) : Binds K fd Q9.n [] := F.binds fun _ _ _ _ _ _ => bl1 fun _ => rfl
theorem bd__law_wrong_line {f : Addr} {fd : FuncData} (F : Fun K "_law_wrong_line" "_law_wrong_line" Dn.s__law_wrong_line f fd) : Binds K fd Q9.g [] := F.binds fun _ _ _ _ _ _ => bl2 fun _ _ => rfl
theorem bd_law {f : Addr} {fd : FuncData} (F : Fun K "law" "law" Dn.s_law f fd) : Binds K fd Q9.h [] := F.binds fun _ _ _ _ _ _ => bl1 fun _ => rfl
theorem bd_InvalidText_i {f : Addr} {fd : FuncData} (F : Fun K "__init__" "InvalidText.__init__" Dn.s_InvalidText___init__ f fd) : Binds K fd Q9.l [] := F.binds fun _ _ _ _ _ _ => bl2 fun _ _ => rfl
end
theorem all_mk {l : PySem.W.OpenLaw} {w : World} {K : PySem.W.Frag} {h : Heap} {mg : Str -> Option Value} {fa : Addr} (X : K.In h) (G : h.Ns mainGlobals mg) (hfa : mg "law" = some (.ref fa)) (c0 : Hf.Says pt0 w K) :
  ∃ fd : FuncData, (∀ (s : Shared) (v : Value), BindsTo s fd ⟨[v], []⟩ [("_law_script", v)]) /\ ∀ base : Heap, K.In base -> base.Ns mainGlobals mg -> FnOk l.prog w K mg base (L2N.CX l.prog w) 22 fa fd Q9.h (Dn.spLaw K) := by
 obtain ⟨fd__law_pool, F__law_pool⟩ := Hf.fd_ c0 0
 obtain ⟨fd__law_draw, F__law_draw⟩ := Hf.fd_ c0 1
 obtain ⟨fd__law_name, F__law_name⟩ := Hf.fd_ c0 2
 obtain ⟨fd__law_names, F__law_names⟩ := Hf.fd_ c0 3
 obtain ⟨fd__law_pick, F__law_pick⟩ := Hf.fd_ c0 4
 obtain ⟨fd__law_any_deed, F__law_any_deed⟩ := Hf.fd_ c0 5
 obtain ⟨fd__law_line, F__law_line⟩ := Hf.fd_ c0 6
 obtain ⟨fd_write_deed, F_write_deed⟩ := Hf.fd_ c0 7
 obtain ⟨fd_write_deeds, F_write_deeds⟩ := Hf.fd_ c0 8
 obtain ⟨fd__law_same, F__law_same⟩ := Hf.fd_ c0 9
 have b__law_same := bd__law_same F__law_same
 have m__law_same := He.glo_ok X G (c0.fact 9)
 obtain ⟨fd_is_name, F_is_name⟩ := Hf.fd_ c0 10
 obtain ⟨fd_is_digit, F_is_digit⟩ := Hf.fd_ c0 11
 obtain ⟨fd_read_deed, F_read_deed⟩ := Hf.fd_ c0 12
 obtain ⟨fd_read_deeds, F_read_deeds⟩ := Hf.fd_ c0 13
 obtain ⟨fd__law_read, F__law_read⟩ := Hf.fd_ c0 14
 obtain ⟨fd__law_wrong_line, F__law_wrong_line⟩ := Hf.fd_ c0 15
 obtain ⟨fd_law, G_law⟩ := (c0.def_ 16)
 have F_law : Fun K "law" "law" Dn.s_law (He.ga K "law") fd_law := Hf.fun_of G_law
 have m_law := He.glo_ok X G (c0.fact 16)
 obtain ⟨sup, sc⟩ := Hf.sup_ok (x := "SwapError") (He.glo_ok X G (c0.fact 17)) (c0.exo 0)
 have ob : Obc K := Hf.ob_ok (c0.exo 1)
 have m_InvalidText := He.glo_ok X G (c0.fact 18)
 have xc_InvalidText : XC K (He.ga K "InvalidText") (He.ga K "SwapError") := Hf.xc_ok (c0.exo 2)
 have n_InvalidText_line := He.noat_ok (c0.fact 19)
 obtain ⟨ic_InvalidText, t_InvalidText_i⟩ := Hf.ic_ok (c0.exo 3)
 obtain ⟨fd_InvalidText_i, F_InvalidText_i⟩ := Hf.fm_ c0 17
 have em_InvalidText := xc_InvalidText.exm xc_InvalidText
 simp at em_InvalidText
 have g_InvalidText := m_InvalidText
 have xf_InvalidText_line : XfN K "InvalidText" "line" := ⟨xc_InvalidText.xf, n_InvalidText_line, em_InvalidText⟩
 have z_abs := He.free_ok X G (c0.fact 21)
 have z_all := He.free_ok X G (c0.fact 22)
 have z_bool := He.free_ok X G (c0.fact 24)
 have z_dict := He.free_ok X G (c0.fact 25)
 have z_int := He.free_ok X G (c0.fact 27)
 have z_isinstance := He.free_ok X G (c0.fact 28)
 have z_len := He.free_ok X G (c0.fact 29)
 have z_list := He.free_ok X G (c0.fact 30)
 have z_range := He.free_ok X G (c0.fact 33)
 have z_str := He.free_ok X G (c0.fact 35)
 have z_tuple := He.free_ok X G (c0.fact 37)
 have z_zip := He.free_ok X G (c0.fact 38)
 have T : My.Txt K mg := ⟨z_len, z_abs, z_int, z_isinstance, z_tuple, z_list, z_dict, z_str, z_bool, z_all, z_range, z_zip, (He.free_ok X G (c0.fact 20))⟩
 have TN : TxN mg := ⟨z_len, z_abs, z_int, (He.free_ok X G (c0.fact 31)), (He.free_ok X G (c0.fact 32)), (He.free_ok X G (c0.fact 36)), z_isinstance, z_tuple, z_list, z_dict, z_str, z_bool, z_all, (He.free_ok X G (c0.fact 23)), z_range, z_zip, (He.free_ok X G (c0.fact 26)), (He.free_ok X G (c0.fact 34))⟩
 obtain ⟨GD_DEEDS⟩ : Nonempty (Dl.GlD K w mg "DEEDS" Dn.gd_DEEDS) := Dl.gd_of (l := [("edit", Q9.i), ("fire", ["name"]), ("set", Q9.j), ("reload", [])]) (He.glo_ok X G (c0.fact 39)) (c0.tab 0) (c0.exo 4) (by decide +kernel)
 obtain ⟨tok_LETTERS, g_LETTERS⟩ := He.str_ok X G (c0.fact 40)
 obtain ⟨tok_DIGITS, g_DIGITS⟩ := He.str_ok X G (c0.fact 41)
 have e := hfa.symm.trans m_law
 cases e
 have bl := FunD.bindsA (ps := Q9.h) G_law fun _ _ _ _ _ _ us hl => match us, hl with | [_], _ => rfl
 refine ⟨fd_law, fun s v => bl s [v] rfl, fun base _ _ => ?_⟩
 have X_InvalidText : XcN l.prog w K mg base 1 "InvalidText" "line" Q9.l Dn.smI Dn.idA := ⟨_, _, xc_InvalidText.oex, ic_InvalidText, t_InvalidText_i, Dn.ok_InvalidText xc_InvalidText sup n_InvalidText_line F_InvalidText_i, (bd_InvalidText_i F_InvalidText_i), m_InvalidText⟩
 have D__law_draw : DfN l.prog w K mg base 1 "_law_draw" Q9.b (Dn.F__law_draw) := ⟨_, _, Dn.dn__law_draw TN  F__law_draw, (He.glo_ok X G (c0.fact 1)), F__law_draw.kp, (bd__law_draw F__law_draw)⟩
 have D__law_name : DfN l.prog w K mg base 2 "_law_name" Q9.e (Dn.F__law_name) := ⟨_, _, Dn.dn__law_name TN D__law_draw F__law_name, (He.glo_ok X G (c0.fact 2)), F__law_name.kp, (bd__law_name F__law_name)⟩
 have D__law_names : DfN l.prog w K mg base 3 "_law_names" Q9.f (Dn.F__law_names) := ⟨_, _, Dn.dn__law_names TN D__law_name F__law_names, (He.glo_ok X G (c0.fact 3)), F__law_names.kp, (bd__law_names F__law_names)⟩
 have D__law_pick : DfN l.prog w K mg base 2 "_law_pick" Q9.d (Dn.F__law_pick) := ⟨_, _, Dn.dn__law_pick TN D__law_draw F__law_pick, (He.glo_ok X G (c0.fact 4)), F__law_pick.kp, (bd__law_pick F__law_pick)⟩
 have D__law_any_deed : DfN l.prog w K mg base 3 "_law_any_deed" Q9.c (Dn.F__law_any_deed) := ⟨_, _, Dn.dn__law_any_deed TN D__law_draw D__law_pick F__law_any_deed, (He.glo_ok X G (c0.fact 5)), F__law_any_deed.kp, (bd__law_any_deed F__law_any_deed)⟩
 have D__law_line : DfN l.prog w K mg base 1 "_law_line" Q9.m (Dn.F__law_line) := ⟨_, _, Dn.dn__law_line TN  F__law_line, (He.glo_ok X G (c0.fact 6)), F__law_line.kp, (bd__law_line F__law_line)⟩
 have D_write_deed : DfN l.prog w K mg base 1 "write_deed" ["deed"] (Dn.F_write_deed) := ⟨_, _, Dn.dn_write_deed TN  F_write_deed, (He.glo_ok X G (c0.fact 7)), F_write_deed.kp, (bd_write_deed F_write_deed)⟩
 have D_write_deeds : DfN l.prog w K mg base 2 "write_deeds" ["deeds"] (Dn.F_write_deeds) := ⟨_, _, Dn.dn_write_deeds TN D_write_deed F_write_deeds, (He.glo_ok X G (c0.fact 8)), F_write_deeds.kp, (bd_write_deeds F_write_deeds)⟩
 have D__law_same : DfN l.prog w K mg base 9 "_law_same" Q9.a (Dn.Fsame 0) := ⟨_, _, (bad_ok (f := He.ga K "_law_same") (fd := fd__law_same)), m__law_same, F__law_same.kp, b__law_same⟩
 have D__law_same : DfN l.prog w K mg base 10 "_law_same" Q9.a (Dn.Fsame 1) := ⟨_, _, Dn.dn__law_same (j := 9) TN (by decide) D__law_same F__law_same, m__law_same, F__law_same.kp, b__law_same⟩
 have D__law_same : DfN l.prog w K mg base 11 "_law_same" Q9.a (Dn.Fsame 2) := ⟨_, _, Dn.dn__law_same (j := 10) TN (by decide) D__law_same F__law_same, m__law_same, F__law_same.kp, b__law_same⟩
 have D__law_same : DfN l.prog w K mg base 12 "_law_same" Q9.a (Dn.Fsame 3) := ⟨_, _, Dn.dn__law_same (j := 11) TN (by decide) D__law_same F__law_same, m__law_same, F__law_same.kp, b__law_same⟩
 have D__law_same : DfN l.prog w K mg base 13 "_law_same" Q9.a (Dn.Fsame 4) := ⟨_, _, Dn.dn__law_same (j := 12) TN (by decide) D__law_same F__law_same, m__law_same, F__law_same.kp, b__law_same⟩
 have D__law_same : DfN l.prog w K mg base 14 "_law_same" Q9.a (Dn.Fsame 5) := ⟨_, _, Dn.dn__law_same (j := 13) TN (by decide) D__law_same F__law_same, m__law_same, F__law_same.kp, b__law_same⟩
 have D__law_same : DfN l.prog w K mg base 15 "_law_same" Q9.a (Dn.Fsame 6) := ⟨_, _, Dn.dn__law_same (j := 14) TN (by decide) D__law_same F__law_same, m__law_same, F__law_same.kp, b__law_same⟩
 have D__law_same : DfN l.prog w K mg base 16 "_law_same" Q9.a (Dn.Fsame 7) := ⟨_, _, Dn.dn__law_same (j := 15) TN (by decide) D__law_same F__law_same, m__law_same, F__law_same.kp, b__law_same⟩
 have D__law_same : DfN l.prog w K mg base 17 "_law_same" Q9.a (Dn.Fsame 8) := ⟨_, _, Dn.dn__law_same (j := 16) TN (by decide) D__law_same F__law_same, m__law_same, F__law_same.kp, b__law_same⟩
 have D__law_same : DfN l.prog w K mg base 18 "_law_same" Q9.a (Dn.Fsame 9) := ⟨_, _, Dn.dn__law_same (j := 17) TN (by decide) D__law_same F__law_same, m__law_same, F__law_same.kp, b__law_same⟩
 have D__law_same : DfN l.prog w K mg base 19 "_law_same" Q9.a (Dn.Fsame 10) := ⟨_, _, Dn.dn__law_same (j := 18) TN (by decide) D__law_same F__law_same, m__law_same, F__law_same.kp, b__law_same⟩
 have D__law_same : DfN l.prog w K mg base 20 "_law_same" Q9.a (Dn.Fsame 11) := ⟨_, _, Dn.dn__law_same (j := 19) TN (by decide) D__law_same F__law_same, m__law_same, F__law_same.kp, b__law_same⟩
 have D__law_same : DfN l.prog w K mg base 21 "_law_same" Q9.a (Dn.Fsame 12) := ⟨_, _, Dn.dn__law_same (j := 20) TN (by decide) D__law_same F__law_same, m__law_same, F__law_same.kp, b__law_same⟩
 have D_is_name : DfN l.prog w K mg base 1 "is_name" ["value"] (Dn.F_is_name) := ⟨_, _, Dn.dn_is_name TN g_LETTERS F_is_name, (He.glo_ok X G (c0.fact 10)), F_is_name.kp, (bd_is_name F_is_name)⟩
 have D_is_digit : DfN l.prog w K mg base 1 "is_digit" ["part"] (Dn.F_is_digit) := ⟨_, _, Dn.dn_is_digit TN g_DIGITS F_is_digit, (He.glo_ok X G (c0.fact 11)), F_is_digit.kp, (bd_is_digit F_is_digit)⟩
 have D_read_deed : DfN l.prog w K mg base 2 "read_deed" ["line"] (Dn.F_read_deed) := ⟨_, _, Dn.dn_read_deed TN GD_DEEDS D_is_name D_is_digit F_read_deed, (He.glo_ok X G (c0.fact 12)), F_read_deed.kp, (bd_read_deed F_read_deed)⟩
 have D_read_deeds : DfN l.prog w K mg base 3 "read_deeds" ["text"] (Dn.F_read_deeds) := ⟨_, _, Dn.dn_read_deeds TN D_read_deed X_InvalidText F_read_deeds, (He.glo_ok X G (c0.fact 13)), F_read_deeds.kp, (bd_read_deeds F_read_deeds)⟩
 have D__law_read : DfN l.prog w K mg base 4 "_law_read" Q9.n (Dn.F__law_read) := ⟨_, _, Dn.dn__law_read TN g_InvalidText em_InvalidText D_read_deeds xf_InvalidText_line F__law_read, (He.glo_ok X G (c0.fact 14)), F__law_read.kp, (bd__law_read F__law_read)⟩
 have D__law_wrong_line : DfN l.prog w K mg base 3 "_law_wrong_line" Q9.g (Dn.F__law_wrong_line) := ⟨_, _, Dn.dn__law_wrong_line TN D__law_line D__law_draw D__law_pick F__law_wrong_line, (He.glo_ok X G (c0.fact 15)), F__law_wrong_line.kp, (bd__law_wrong_line F__law_wrong_line)⟩
 have D__law_pool : Dn.DfS l.prog w K mg base 1 "_law_pool" Q9.h (spPool K) := ⟨_, _, ok_pool T F__law_pool, (He.glo_ok X G (c0.fact 0)), F__law_pool.kp, (bd__law_pool F__law_pool)⟩
 exact Dn.ok_law TN D__law_pool D__law_draw D__law_names D__law_any_deed D__law_line D_write_deeds D__law_same D__law_read D__law_wrong_line F_law
theorem law_walk {l : PySem.W.OpenLaw} {q : Program} {loose : List Str} {XP : (Str -> Option Value) -> Heap -> Prop} {d : DefRec} {as : List Addr} (hn : l.most = some 63) (hdf : d.params.defaults = []) (hd : d.name = ("law" : Str)) :
  PySem.W.WalkO q loose XP (Hf.hook as [pt0]).says l.row.toRowW d [] (fun f vs => PySem.call f vs) :=
 Hf.walk (n := 63) (k := 22) (x := "_law_script") hn (by decide) hdf ⟨rfl, by decide, by decide⟩
  (fun w mg fa h Y G hmg => by
   obtain ⟨K, KX, c⟩ := Hf.says_of Y
   rw [hd] at hmg
   obtain ⟨fd, hb, hF⟩ := all_mk (l := l) (w := w) KX G hmg (c 0 _ rfl)
   exact ⟨K, fd, Dn.spLaw K, KX, hb, fun H a ns hl hS => ⟨a, ns, rfl, hS, hl, fun _ => rfl⟩, hF⟩)
set_option maxHeartbeats 0
end My
open PySem PySem.W PySem.Calls PyProof.Rows in
set_option maxRecDepth 100000 in
set_option maxHeartbeats 0 in
theorem PySem.Challenge.cw_swappedhot_k53_deeds_as_texts_holds : PySem.Challenge.rw_swappedhot_k53_deeds_as_texts.Holds := by
 w_on; o_law
 refine HandSHeadRun.head_any (r := OpenLaw.row PySem.Challenge.rw_swappedhot_k53_deeds_as_texts) (q := My.qv) (H := Hf.hook My.adrs [My.pt0]) (ob := Hf.ob My.adrs [My.pt0]) (M := 1473) (loose := My.nms) (d := My.dL) (kwd := []) (Hf.ob_eq _ _)
  My.hd1 My.hd2 My.run1 My.hd3 My.hd4 My.hd5 (by rfl) (by first | assumption | decide +kernel) My.hd6 My.hd7 ?hw ?hc
 case hw => w_witness2
 case hc => exact My.law_walk (l := PySem.Challenge.rw_swappedhot_k53_deeds_as_texts) rfl (by kernel_rfl) (by kernel_rfl)
