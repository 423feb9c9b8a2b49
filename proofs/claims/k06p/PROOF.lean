import PyProof.Rows.All
import Wide.All
import OpenK.AllK
import Wide.FinOn
import HandS.ForMost
import HandS.Wide
import HandS.Codes
import HandS.SetFor
import HandS.IsInst
import KE.GoesMore
import KE.GoesEnum
import HandS.Walk
import KE.DataMinMax
import KE.GoesRev
import KE.SortData
import HandS.More
import HandS.Style
import HandS.Rev
import HandS.TupMul
import HandS.DictComp
import HandS.Sort
import HandS.Comp
import HandS.Zip
import PySem.Challenge.RW_hintslie_k06_floors_judged
import HandS.Defaults
import HandS.Head0
import HandS.Head1
import HandS.Head2
import HandS.HeadEnd
import HandS.HeadHook1
import HandS.HeadHook2
set_option Elab.async false
set_option linter.all false
set_option maxRecDepth 100000
set_option maxHeartbeats 4000000
namespace Toy
open PySem PySem.Spec PyProof.Rows L2
section
variable {P : Program} {w : World} {K : PySem.W.Frag} {mg : Str → Option Value} {base : Heap}
structure DefAt (K : PySem.W.Frag) (mg : Str → Option Value) (x : Str) (st : Stmt) (ps : List Str) : Prop where
  h : ∃ (f : Addr) (fd : FuncData), mg x = some (.ref f) ∧ Fun K x x st f fd ∧ Binds K fd ps []
/-- what a caller has of a def -/
def Ok (P : Program) (w : World) (K : PySem.W.Frag) (mg : Str → Option Value) (base : Heap) (k : Nat) (x : Str) (ps : List Str) (sp : Sp) : Prop :=
  ∃ (f : Addr) (fd : FuncData), mg x = some (.ref f) ∧ PySem.W.keepIn K (.ref f) = true ∧ Binds K fd ps [] ∧ FnOk P w K mg base CX0 k f fd ps sp
theorem ok_of {x : Str} {st : Stmt} {N ps : List Str} {k : Nat} {sp : Sp} (D : DefAt K mg x st ps) (S : FnScope N ps (defScope st)) (len : ∀ vs H Q E, sp vs H Q E → vs.length = ps.length)
    (hbody : ∀ (f : Addr) (cdv : Value) (A : Around) (outer : List Env) (s : Shared) (H : Hp) (vs : List V) (Q : VK) (E : XK), Room k (A.deeper (envOfC x (defScope st) s.heap.objs.size f cdv)) → sp vs H Q E →
      ∃ t, PSs (cxOf CX0 P w K mg base N x (defScope st) f cdv A outer s H E).nox (defBody st) t ∧ t { nx := fun _ H' => Q .non H', rt := Q } (start N vs) H) : Ok P w K mg base (k + 1) x ps sp := by
  obtain ⟨f, fd, m, F, b⟩ := D.h
  exact ⟨f, fd, m, F.kp, b, F.ok S len fun cdv A outer s H vs Q E hr h => hbody f cdv A outer s H vs Q E hr h⟩
structure ClsInit (K : PySem.W.Frag) (C : Addr) (qual : Str) (st : Stmt) (ps : List Str) : Prop where
  h : ∃ (f : Addr) (fd : FuncData), Mk K C f ∧ Fun K "__init__" qual st f fd ∧ Binds K fd ps []
structure MethAt (K : PySem.W.Frag) (C : Addr) (m qual : Str) (st : Stmt) (ps : List Str) : Prop where
  h : ∃ (f : Addr) (fd : FuncData), Meth K C m f ∧ Fun K m qual st f fd ∧ Binds K fd ps []
def OkI (P : Program) (w : World) (K : PySem.W.Frag) (mg : Str → Option Value) (base : Heap) (CX : CXT) (k : Nat) (x : Str) (C : Addr) (ps : List Str) (sp : Sp) : Prop :=
  ∃ (f : Addr) (fd : FuncData), mg x = some (.ref C) ∧ Mk K C f ∧ Binds K fd ps [] ∧ FnOk P w K mg base CX k f fd ps sp
def OkM (P : Program) (w : World) (K : PySem.W.Frag) (mg : Str → Option Value) (base : Heap) (CX : CXT) (k : Nat) (C : Addr) (m : Str) (ps : List Str) (sp : Sp) : Prop :=
  ∃ (f : Addr) (fd : FuncData), Meth K C m f ∧ Binds K fd ps [] ∧ FnOk P w K mg base CX k f fd ps sp
theorem okI_of {x qual : Str} {C : Addr} {st : Stmt} {N ps : List Str} {k : Nat} {sp : Sp} (hm : mg x = some (.ref C)) (D : ClsInit K C qual st ps) (S : FnScope N ps (defScope st)) (len : ∀ vs H Q E, sp vs H Q E → vs.length = ps.length)
    (hbody : ∀ (f : Addr) (cdv : Value) (A : Around) (outer : List Env) (s : Shared) (H : Hp) (vs : List V) (Q : VK) (E : XK), Room k (A.deeper (envOfC qual (defScope st) s.heap.objs.size f cdv)) → sp vs H Q E →
      ∃ t, PSs (cxOf CX0 P w K mg base N qual (defScope st) f cdv A outer s H E).nox (defBody st) t ∧ t { nx := fun _ H' => Q .non H', rt := Q } (start N vs) H) : OkI P w K mg base CX0 (k + 1) x C ps sp := by
  obtain ⟨f, fd, M, F, b⟩ := D.h
  exact ⟨f, fd, hm, M, b, F.ok S len fun cdv A outer s H vs Q E hr h => hbody f cdv A outer s H vs Q E hr h⟩
theorem okM_of {m qual : Str} {C : Addr} {st : Stmt} {N ps : List Str} {k : Nat} {sp : Sp} (D : MethAt K C m qual st ps) (S : FnScope N ps (defScope st)) (len : ∀ vs H Q E, sp vs H Q E → vs.length = ps.length)
    (hbody : ∀ (f : Addr) (cdv : Value) (A : Around) (outer : List Env) (s : Shared) (H : Hp) (vs : List V) (Q : VK) (E : XK), Room k (A.deeper (envOfC qual (defScope st) s.heap.objs.size f cdv)) → sp vs H Q E →
      ∃ t, PSs (cxOf CX0 P w K mg base N qual (defScope st) f cdv A outer s H E).nox (defBody st) t ∧ t { nx := fun _ H' => Q .non H', rt := Q } (start N vs) H) : OkM P w K mg base CX0 (k + 1) C m ps sp := by
  obtain ⟨f, fd, M, F, b⟩ := D.h
  exact ⟨f, fd, M, b, F.ok S len fun cdv A outer s H vs Q E hr h => hbody f cdv A outer s H vs Q E hr h⟩
end
/-! heaps that keep all but one object -/
def Keep (d : Addr) (H H' : Hp) : Prop := ∀ b o, b ≠ d → H b = some o → H' b = some o
theorem Keep.refl (d : Addr) (H : Hp) : Keep d H H := fun _ _ _ h => h
theorem Keep.trans {d : Addr} {H H1 H2 : Hp} (a : Keep d H H1) (b : Keep d H1 H2) : Keep d H H2 := fun c o n h => b c o n (a c o n h)
theorem Keep.same {d : Addr} {H H1 H2 : Hp} (a : Keep d H H1) (b : Same H1 H2) : Keep d H H2 := fun c o n h => b c o (a c o n h)
theorem same_keep {d : Addr} {H H1 : Hp} (a : Same H H1) : Keep d H H1 := fun c o n h => a c o h
theorem Keep.free {d l : Addr} {H H' : Hp} (e : Keep d H H') (n : l ≠ d) (h : H' l = none) : H l = none := by
  cases q : H l with
  | none => rfl
  | some o => rw [e l o n q] at h; cases h
theorem same_new {H : Hp} {p : Addr} {o : HO} (h : H p = none) : Same H (upd H p o) := fun b u e => by
  rw [upd_ne (ne_of_none e h)]; exact e
theorem Keep.upd {d : Addr} {H : Hp} {o : HO} : Keep d H (upd H d o) := fun b u n e => by
  rw [upd_ne n]; exact e
theorem yesT {σ : L2.St} {H : Hp} {A B : Hp → Prop} (h : A H) : tYes σ H (fun b H3 => if b = true then A H3 else B H3) := by
  show (fun b H3 => if b = true then A H3 else B H3) true H
  exact iteT h
/-! the dice: the list at d, the cells at c -/
structure Dice (c : Addr) (H : Hp) (d : Addr) : Prop where
  ex : ∃ (cells : List Int) (i b s t : Int), H d = some (.lst [.ref c, .int i, .int b, .int s, .int t]) ∧ H c = some (.lst (cells.map V.int)) ∧ (∀ x ∈ cells, 0 ≤ x) ∧ 0 ≤ i ∧ 0 ≤ b ∧ 0 ≤ s ∧ s < 2147483647 ∧ 0 ≤ t
section
variable {H H' : Hp} {d c p : Addr} {o : HO}
theorem Dice.some (D : Dice c H d) : ∃ o, H d = some o := by
  obtain ⟨cells, i, b, s, t, h, _⟩ := D.ex
  exact ⟨_, h⟩
theorem Dice.same (D : Dice c H d) (e : Same H H') : Dice c H' d := by
  obtain ⟨cells, i, b, s, t, h, hc, r⟩ := D.ex
  exact ⟨cells, i, b, s, t, e _ _ h, e _ _ hc, r⟩
theorem Dice.ne (D : Dice c H d) (h : H p = none) : p ≠ d := by
  obtain ⟨o, e⟩ := D.some
  intro z; subst z; rw [e] at h; cases h
theorem Dice.nc (D : Dice c H d) (h : H p = none) : p ≠ c := by
  obtain ⟨cells, i, b, s, t, e, hc, r⟩ := D.ex
  intro z; subst z; rw [hc] at h; cases h
theorem Dice.upd (D : Dice c H d) (n : p ≠ d) (m : p ≠ c) : Dice c (upd H p o) d := by
  obtain ⟨cells, i, b, s, t, e, hc, r⟩ := D.ex
  exact ⟨cells, i, b, s, t, (upd_ne n.symm).trans e, (upd_ne m.symm).trans hc, r⟩
theorem Dice.tup {xs : List V} (D : Dice c H d) (h : H p = .some (.tup xs)) : p ≠ d := by
  obtain ⟨cells, i, b, s, t, e, _⟩ := D.ex
  exact ne_of h e (by intro z; cases z)
theorem Dice.dK {xs : List (Key × V)} (D : Dice c H d) (h : H p = .some (.dK xs)) : p ≠ d := by
  obtain ⟨cells, i, b, s, t, e, _⟩ := D.ex
  exact ne_of h e (by intro z; cases z)
theorem Keep.tup {xs : List V} (k : Keep d H H') (D : Dice c H d) (h : H p = .some (.tup xs)) : H' p = .some (.tup xs) := k _ _ (D.tup h) h
theorem Keep.mut (k : Keep d H H') (h : H p = none) : Keep d H (L2.upd H' p o) := fun b u n e => by
  rw [upd_ne (ne_of_none e h)]; exact k b u n e
end
def spDice (K : PySem.W.Frag) : Sp := fun vs H Q _ => ∃ (a : Addr) (ns : List Int), vs = [.ref a] ∧ SqL K H a (ns.map V.int) ∧ ns.length ≤ 63 ∧
  ∀ d c H', Same H H' → H d = none → H c = none → Dice c H' d → Q (.ref d) H'
def spDraw : Sp := fun vs H Q _ => ∃ (d c : Addr) (n : Int), vs = [.ref d, .int n] ∧ Dice c H d ∧ 0 < n ∧ n.natAbs < 2 ^ 100 ∧
  ∀ v H', 0 ≤ v → v < n → Keep d H H' → Dice c H' d → Q (.int v) H'
/-! words -/
def abc : Str := "abcdefghijklmnopqrstuvwxyz"
structure Low (z : Str) : Prop where
  c : ∀ x ∈ z.cps.toList, 97 ≤ x ∧ x ≤ 122
structure Name (m : Int) (z : Str) : Prop where
  lo : 1 ≤ z.length
  hi : (z.length : Int) ≤ m
  low : Low z
theorem abc_at : ∀ i : Nat, i < 26 → ∃ c, abc.cps[i]? = some c ∧ 97 ≤ c ∧ c ≤ 122 := by
  have h : ∀ i : _root_.Fin 26, ∃ c, abc.cps[i.val]? = some c ∧ 97 ≤ c ∧ c ≤ 122 := by
    have e : abc.cps = #[97,98,99,100,101,102,103,104,105,106,107,108,109,110,111,112,113,114,115,116,117,118,119,120,121,122] := by decide +kernel
    intro i
    refine ⟨97 + i.val, ?_, by omega, by omega⟩
    rw [e]
    revert i
    decide
  exact fun i hi => h ⟨i, hi⟩
theorem abc_len : abc.length = 26 := by decide +kernel
theorem Low.app {z : Str} {c : Nat} (h : Low z) (a : 97 ≤ c) (b : c ≤ 122) : Low (z ++ ⟨#[c]⟩) := ⟨fun x hx => by
  have e : (z ++ (⟨#[c]⟩ : Str)).cps = z.cps ++ #[c] := rfl
  rw [e, Array.toList_append] at hx
  rcases List.mem_append.mp hx with q | q
  · exact h.c x q
  · rw [List.mem_singleton.mp q]; exact ⟨a, b⟩⟩
theorem len_app (z : Str) (c : Nat) : (z ++ (⟨#[c]⟩ : Str)).length = z.length + 1 := PySem.Str.length_append z ⟨#[c]⟩
def spWord : Sp := fun vs H Q _ => ∃ (d c : Addr) (n : Int), vs = [.ref d, .int n] ∧ Dice c H d ∧ 0 < n ∧ n ≤ 1000 ∧
  ∀ z H', Name n z → Keep d H H' → Dice c H' d → Q (.str z) H'
end Toy

namespace Toy
open PySem PySem.Spec PyProof.Rows L2
/-! pairs of lists -/
theorem prd_at1 {α β : Type} {F : α → β → Prop} : ∀ {xs : List α} {ys : List β} {i : Nat} {x : α}, Paired F xs ys → xs[i]? = some x → ∃ y, ys[i]? = some y ∧ F x y
  | _, _, _, _, .nil, e => by simp at e
  | _, _, 0, _, .cons r _, e => by simp at e; subst e; exact ⟨_, rfl, r⟩
  | _, _, i + 1, x, .cons _ t, e => by
    obtain ⟨y, h1, h2⟩ := prd_at1 (i := i) (x := x) t (by simpa using e)
    exact ⟨y, by simpa using h1, h2⟩
theorem prd_at2 {α β : Type} {F : α → β → Prop} : ∀ {xs : List α} {ys : List β} {i : Nat} {y : β}, Paired F xs ys → ys[i]? = some y → ∃ x, xs[i]? = some x ∧ F x y
  | _, _, _, _, .nil, e => by simp at e
  | _, _, 0, _, .cons r _, e => by simp at e; subst e; exact ⟨_, rfl, r⟩
  | _, _, i + 1, x, .cons _ t, e => by
    obtain ⟨y, h1, h2⟩ := prd_at2 (i := i) (y := x) t (by simpa using e)
    exact ⟨y, by simpa using h1, h2⟩
theorem prd_imp {α β : Type} {F G : α → β → Prop} : ∀ {xs : List α} {ys : List β}, Paired F xs ys → (∀ a b, F a b → G a b) → Paired G xs ys
  | _, _, .nil, _ => .nil
  | _, _, .cons r t, f => .cons (f _ _ r) (prd_imp t f)
theorem prd_len {α β : Type} {F : α → β → Prop} {xs : List α} {ys : List β} (h : Paired F xs ys) : xs.length = ys.length := PySem.Paired.length h
/-! what stands: tuples of ints, of ints or None, tuples of these, dicts of these -/
def vO : Option Int → V
  | some i => .int i
  | none => .non
def IntT (H : Hp) (v : V) (xs : List Int) : Prop := ∃ a, v = .ref a ∧ H a = some (.tup (xs.map V.int))
def OptT (H : Hp) (v : V) (xs : List (Option Int)) : Prop := ∃ a, v = .ref a ∧ H a = some (.tup (xs.map vO))
def TupT {α : Type} (R : Hp → V → α → Prop) (H : Hp) (v : V) (xs : List α) : Prop := ∃ a vs, v = .ref a ∧ H a = some (.tup vs) ∧ Paired (R H) vs xs
/-- what Keep and Same keep -/
def Firm {α : Type} (R : Hp → V → α → Prop) : Prop := ∀ (H H' : Hp) v x, (∀ a xs, H a = some (.tup xs) → H' a = some (.tup xs)) → R H v x → R H' v x
theorem same_tups {H H' : Hp} (k : Same H H') : ∀ a xs, H a = some (.tup xs) → H' a = some (.tup xs) := fun _ _ h => k _ _ h
theorem keep_tups {c d : Addr} {H H' : Hp} (k : Keep d H H') (D : Dice c H d) : ∀ a xs, H a = some (.tup xs) → H' a = some (.tup xs) := fun _ _ h => k.tup D h
theorem IntT.firm : Firm IntT := fun _ _ _ _ k ⟨a, e, h⟩ => ⟨a, e, k _ _ h⟩
theorem OptT.firm : Firm OptT := fun _ _ _ _ k ⟨a, e, h⟩ => ⟨a, e, k _ _ h⟩
theorem TupT.firm {α : Type} {R : Hp → V → α → Prop} (f : Firm R) : Firm (TupT R) := fun H H' _ _ k ⟨a, vs, e, h, p⟩ => ⟨a, vs, e, k _ _ h, prd_imp p fun x y r => f _ _ x y k r⟩
/-- a dict of texts to such -/
def DctOf {α : Type} (R : Hp → V → α → Prop) (H : Hp) (kvs : List (Key × V)) (rs : List (Str × α)) : Prop := Paired (fun (kv : Key × V) (p : Str × α) => kv.1 = .inr p.1 ∧ R H kv.2 p.2) kvs rs
theorem DctOf.firm {α : Type} {R : Hp → V → α → Prop} (f : Firm R) {H H' : Hp} {kvs : List (Key × V)} {rs : List (Str × α)} (k : ∀ a xs, H a = some (.tup xs) → H' a = some (.tup xs)) (h : DctOf R H kvs rs) : DctOf R H' kvs rs :=
  prd_imp h fun x y r => ⟨r.1, f H H' _ _ k r.2⟩
theorem dct_none {α : Type} {R : Hp → V → α → Prop} {H : Hp} {z : Str} : ∀ {kvs : List (Key × V)} {rs : List (Str × α)}, DctOf R H kvs rs → ¬ z ∈ rs.map (·.1) → valV kvs (.inr z : Key) = none
  | _, _, .nil, _ => rfl
  | kv :: kvs, p :: rs, .cons r t, h => by
    have e : ¬ kv.1 = (.inr z : Key) := fun q => h (by
      rw [r.1] at q; cases q
      exact List.mem_cons_self)
    rw [valV_neg e]
    exact dct_none t fun m => h (List.mem_cons_of_mem _ m)
theorem dct_some {α : Type} {R : Hp → V → α → Prop} {H : Hp} {z : Str} {x : α} : ∀ {kvs : List (Key × V)} {rs : List (Str × α)}, DctOf R H kvs rs → (rs.map (·.1)).Nodup → (z, x) ∈ rs → ∃ v, valV kvs (.inr z : Key) = some v ∧ R H v x
  | _, _, .nil, _, h => by cases h
  | kv :: kvs, p :: rs, .cons r t, nd, h => by
    rw [List.map_cons] at nd
    obtain ⟨n1, n2⟩ := List.nodup_cons.mp nd
    rcases List.mem_cons.mp h with e | h
    · subst e
      exact ⟨kv.2, valV_pos r.1, r.2⟩
    · have e : ¬ kv.1 = (.inr z : Key) := fun q => n1 (by
        rw [r.1] at q
        have q : p.1 = z := Sum.inr.inj q
        rw [q]
        exact List.mem_map.mpr ⟨(z, x), h, rfl⟩)
      rw [valV_neg e]
      exact dct_some t n2 h
theorem dct_len {α : Type} {R : Hp → V → α → Prop} {H : Hp} {kvs : List (Key × V)} {rs : List (Str × α)} (h : DctOf R H kvs rs) : kvs.length = rs.length := prd_len h
/-! in, count -/
theorem inV_str (z : Str) : ∀ zs : List Str, inV (.str z) (zs.map V.str) = decide (z ∈ zs)
  | [] => rfl
  | y :: zs => by
    have ih := inV_str z zs
    unfold inV at ih ⊢
    rw [List.map_cons, List.any_cons, ih]
    show ((y == z) || decide (z ∈ zs)) = decide (z ∈ y :: zs)
    by_cases e : y = z
    · subst e; simp
    · have e' : ¬ z = y := fun q => e q.symm
      simp [e, e']
theorem flat_str (zs : List Str) : (zs.map V.str).all flatV = true := by
  rw [List.all_eq_true]; intro x hx; obtain ⟨z, _, rfl⟩ := List.mem_map.mp hx; rfl
theorem flat_vO (zs : List (Option Int)) : (zs.map vO).all flatV = true := by
  rw [List.all_eq_true]; intro x hx; obtain ⟨z, _, rfl⟩ := List.mem_map.mp hx; cases z <;> rfl
theorem count_eqU {x : V} : ∀ {xs : List V} {us : List Value}, Vals xs us → xs.all flatV = true → us.countP (eqU x) = xs.countP fun y => eqV y x
  | _, _, .nil, _ => rfl
  | y :: xs, u :: us, .cons r t, f => by
    rw [List.all_cons, Bool.and_eq_true] at f
    rw [List.countP_cons, List.countP_cons, eqU_of r f.1, count_eqU t f.2]
section
variable {X : Cx}
def rCntV (K : PySem.W.Frag) : V → List V → Hp → VK → Prop := fun x xs H Q => ∃ (p : Addr) (ys : List V) (k : V), x = .ref p ∧ xs = [k] ∧ SqL K H p ys ∧ ys.all flatV = true ∧ flatV k = true ∧ Q (.int ((ys.countP fun y => eqV y k) : Nat)) H
theorem mt_countV : MtR X "list.count" (rCntV X.K) := by
  intro pins s σ H x xs v us Q I rx rxs h
  obtain ⟨p, ys, k, rfl, rfl, hs, fs, fk, q⟩ := h
  cases rx
  obtain ⟨u, rfl, ru⟩ := rxs.one
  obtain ⟨its, rv, ⟨⟨cls, dd, data, sl⟩, n, ho, hc, hdn, hd⟩, hlen⟩ := I.list hs
  simp only at hc hd
  subst hc hd
  refine call_meets PySem.F.slot_list_count ⟨_, ho, rfl⟩ PySem.F.entry_list_count (PySem.F.args_list_count_2 _ _)
    (SeqAt.list_countAt p its.toArray n dd sl u (eqU k)) ⟨ho, fun y hy => mem_eqAt ru fk rv fs y (by simpa using hy), ?_⟩
  have ec : its.toArray.toList.countP (eqU k) = ys.countP fun y => eqV y k := count_eqU rv fs
  refine ⟨.int ((ys.countP fun y => eqV y k) : Nat), H, I.tok _, ⟨s.toks, ?_⟩, q⟩
  rw [ec]
end
theorem cnt_non : ∀ zs : List (Option Int), ((zs.map vO).countP fun y => eqV y .non) = zs.countP fun y => y.isNone
  | [] => rfl
  | z :: zs => by
    rw [List.map_cons, List.countP_cons, List.countP_cons, cnt_non zs]
    cases z <;> rfl
/-! what the drawing defs promise -/
def spNames : Sp := fun vs H Q _ => ∃ (d c : Addr) (n m : Int), vs = [.ref d, .int n, .int m] ∧ Dice c H d ∧ 0 < n ∧ n ≤ 1000 ∧ 0 < m ∧ m ≤ 1000 ∧
  ∀ (l : Addr) (zs : List Str) (H' : Hp), H l = none → H' l = some (.lst (zs.map V.str)) → zs.Nodup → 1 ≤ zs.length → (zs.length : Int) ≤ n → (∀ z ∈ zs, Name m z) → Keep d H H' → Dice c H' d → Q (.ref l) H'
structure Square (n top : Int) (rows : List (List Int)) : Prop where
  len : (rows.length : Int) = n
  row : ∀ r ∈ rows, (r.length : Int) = n ∧ ∀ x ∈ r, 0 ≤ x ∧ x ≤ top
  diag : ∀ (i : Nat) r, rows[i]? = some r → r[i]? = some 0
def spMoves : Sp := fun vs H Q _ => ∃ (d c : Addr) (n top : Int), vs = [.ref d, .int n, .int top] ∧ Dice c H d ∧ 0 < n ∧ n ≤ 1000 ∧ 0 ≤ top ∧ top ≤ 1000 ∧
  ∀ v rows H', TupT IntT H' v rows → Square n top rows → Keep d H H' → Dice c H' d → Q v H'
structure Prices (n top : Int) (row : List (Option Int)) : Prop where
  len : (row.length : Int) = n
  rng : ∀ x, some x ∈ row → 0 ≤ x ∧ x ≤ top
  some : ∃ x, some x ∈ row
def spPrices : Sp := fun vs H Q _ => ∃ (d c : Addr) (n top : Int), vs = [.ref d, .int n, .int top] ∧ Dice c H d ∧ 0 < n ∧ n ≤ 1000 ∧ 0 ≤ top ∧ top ≤ 1000 ∧
  ∀ v row H', OptT H' v row → Prices n top row → Keep d H H' → Dice c H' d → Q v H'
def spRequests (K : PySem.W.Frag) : Sp := fun vs H Q _ => ∃ (d c l : Addr) (zs : List Str) (n top : Int), vs = [.ref d, .ref l, .int n, .int top] ∧ Dice c H d ∧ H l = some (.lst (zs.map V.str)) ∧ zs.length ≤ 1000 ∧ l ≠ d ∧ zs.Nodup ∧ 0 < n ∧ n ≤ 1000 ∧ 0 ≤ top ∧ top ≤ 1000 ∧
  ∀ p kvs rs H', H p = none → H' p = some (.dK kvs) → DctOf OptT H' kvs rs → rs.map (·.1) = zs → (∀ q ∈ rs, Prices n top q.2) → Keep d H H' → Dice c H' d → Q (.ref p) H'
end Toy

namespace Toy
open PySem PySem.Spec PyProof.Rows L2
/-! enumerate of a tuple -/
set_option maxHeartbeats 2000000 in
theorem meets_enum1 {v : Value} {o : Obj} {G : Heap → Prop} (B : Begins v o G) :
    Meets (Builtin.«enumerate.__new__» ⟨[.type "enumerate", v], []⟩) (fun _ R s => G s.heap ∧
      R (.ok (.ret (.ref (s.heap.push o).objs.size))) { s with heap := (s.heap.push o).push { cls := .type "enumerate", data := .fields #[.none, .bool false, .ref s.heap.objs.size, rawInt 0, .none, .none] } }) :=
  .of_wp fun prog w A R s h => by
    obtain ⟨hp, g, d, tk, os⟩ := s
    obtain ⟨h1, h⟩ := h
    have hsub := sub_enumerate
    have qB : ∀ {A' : Around} {E : Value → Shared → Prop} {Q : Value → Shared → Prop}, Q (.ref hp.objs.size) ⟨hp.push o, g, d, tk, os⟩ → wpAny (model prog w) A' (pyIter v) Q E ⟨hp, g, d, tk, os⟩ :=
      fun z => B.iter prog w _ _ ⟨hp, g, d, tk, os⟩ _ h1 z
    wp_walk using qB
    refine wpAny_stack_any fun st => wpAny_pure ?_
    split
    · rename_i c _ _ _ _ _
      cases (c == Value.type "enumerate")
      all_goals (wp_walk using qB; exact ⟨_, rfl, h⟩)
    · wp_walk using qB
      exact ⟨_, rfl, h⟩
section
variable {prog : Program} {w : World} {A : Around} {E : Value → Shared → Prop} {s : Shared}
theorem enum1 {v : Value} {o : Obj} {G : Heap → Prop} {Q : Value → Shared → Prop} (B : Begins v o G) (h1 : G s.heap)
    (h : ∀ h', IsEnum h' (s.heap.objs.size + 1) s.heap.objs.size 0 .none → h'.get? s.heap.objs.size = some o → (∀ b u, s.heap.get? b = some u → h'.get? b = some u) → Q (.ref (s.heap.objs.size + 1)) { s with heap := h' }) :
    wpAny (model prog w) A (call (.type "enumerate") [v]) Q E s := by
  refine callType_new F.called_enumerate (by decide) (F.typeCall_enumerate_1 _) (F.newCall_enumerate_1 _) (fun ob => F.args_object_init_2 ob _) F.entry_enumerate_new (meets_enum1 B) ⟨h1, ?_⟩
  have hz : (s.heap.push o).objs.size = s.heap.objs.size + 1 := Heap.size_push ..
  show _ ∧ _
  rw [hz]
  have he : IsEnum ((s.heap.push o).push { cls := .type "enumerate", data := .fields #[.none, .bool false, .ref s.heap.objs.size, rawInt 0, .none, .none] }) (s.heap.objs.size + 1) s.heap.objs.size 0 .none := by
    have q := Heap.get?_push_size (s.heap.push o) (o := { cls := .type "enumerate", data := .fields #[.none, .bool false, .ref s.heap.objs.size, rawInt 0, .none, .none] }) rfl
    rw [hz] at q
    exact q
  exact ⟨⟨_, he, rfl⟩, h _ he (Heap.get?_push_of_some _ (Heap.get?_push_size _ B.free)) fun b u x => Heap.get?_push_of_some _ (Heap.get?_push_of_some _ x)⟩
end
def ItEt (K : PySem.W.Frag) (a : Addr) : It :=
  ⟨fun i H => ∃ (xs : List V) (x : V), SqT K H a xs ∧ xs[i]? = some x, fun i H v H' => ∃ T x, v = .ref T ∧ H T = none ∧ H' = upd H T (.tup [.int (i : Nat), x]) ∧ ∀ xs, SqT K H a xs → xs[i]? = some x, fun i H => ∃ xs : List V, SqT K H a xs ∧ xs.length = i⟩
theorem turn_enumT {P : Program} {w : World} {K : PySem.W.Frag} {elts : List Expr} {kk : Nat} {tpos : Pos} (a e it : Addr) :
    Turn P w K (.Tuple elts kk tpos) (ItEt K a) [e, it] e (fun i h => (∃ old, IsEnum h e it ((i : Nat) : Int) old) ∧ h.IsTupleIter it a i ∧ e ≠ it ∧ a ≠ it ∧ a ≠ e) where
  mem := by simp
  obj := fun i h st b hb => by
    obtain ⟨⟨old, he⟩, ⟨o, ho, hc, hd⟩, _⟩ := st
    rcases (by simpa using hb : b = e ∨ b = it) with z | z
    · rw [z]; exact ⟨_, he, fun v q => nomatch q⟩
    · rw [z]; exact ⟨o, ho, fun v q => by rw [hd] at q; cases q⟩
  keep := fun i h h' st k => by
    obtain ⟨⟨old, he⟩, hi, hne⟩ := st
    exact ⟨⟨old, k e (by simp) _ he⟩, hi.at fun o q => k it (by simp) o q, hne⟩
  item := by
    intro X hP hw hK hc i pins s σ H E I hf st hg
    subst hP hw hK
    obtain ⟨⟨old, he⟩, hit, hne, hai, hae⟩ := st
    obtain ⟨xs, x, hq, hx⟩ := hg
    obtain ⟨its, rv, p, hz⟩ := I.tuple hq
    obtain ⟨u, hu, ru⟩ := rv.get hx
    have hel : e < s.heap.objs.size := Heap.lt_size he
    have hil : it < s.heap.objs.size := by obtain ⟨_, q, _⟩ := hit; exact Heap.lt_size q
    have hlt : i < its.toArray.size := by
      rw [List.size_toArray]; exact (List.getElem?_eq_some_iff.mp hu).1
    have hh : X.A.in1.handled = none := I.ok.hd hc
    refine wpAny_pyNext_enum_itemD (Draws.tuple (prog := X.prog) (w := X.w) hh it a hai its.toArray) he ⟨hit, p⟩ hlt hne (by simp [hne, Ne.symm hae]) fun u' h' tk hP ho hst hT hsz hk => ?_
    have eu : u' = u := by
      have hP : its.toArray[i]? = some u' := hP
      rw [List.getElem?_toArray, hu] at hP
      exact (Option.some.inj hP).symm
    subst eu
    refine ⟨_, rfl, wpAny_letOwnedTupleGo_enum (s := { s with heap := h', toks := tk + 1 }) ho fun h'' he' sb => ?_⟩
    have hT2 : h''.get? s.heap.objs.size = some { cls := .type "tuple", data := .seq #[.int i tk, u'] } := (sb.2 _ (Nat.ne_of_gt hel)).trans hT
    have new : ObjOk X.prog X.w (upd H s.heap.objs.size (.tup [.int (i : Nat), x])) h'' s.heap.objs.size (.tup [.int (i : Nat), x]) :=
      ⟨(by show 2 ≤ sizeLine; decide), [.int i tk, u'], .cons ⟨_, rfl⟩ (.cons ru .nil), ⟨_, hT2, rfl, _, rfl⟩⟩
    have I1 : Inv X pins σ (upd H s.heap.objs.size (.tup [.int (i : Nat), x])) { s with heap := h'', toks := tk + 1 } :=
      I.turnedNew (ch := [e, it]) (fun b ob hb q => (sb.2 b (fun z => hb (by simp [z]))).trans (hk b ob (fun z => hb (by simp [z])) (fun z => hb (by simp [z])) q)) hf (Nat.le_refl _) new
    refine ⟨.ref s.heap.objs.size, _, I1, rfl, ⟨_, x, rfl, I.hok.fresh (Nat.le_refl _), rfl, fun ys hy => by rw [I.tuple_inj hy hq]; exact hx⟩, ⟨⟨u', ?_⟩, hst.1.at fun o q => (sb.2 it (Ne.symm hne)).trans q, hne, hai, hae⟩, fun b hb => ?_⟩
    · rw [show ((i + 1 : Nat) : Int) = (i : Int) + 1 by omega]
      exact he'
    · have hb' : b < s.heap.objs.size := by
        rcases (by simpa using hb : b = e ∨ b = it) with z | z
        · rw [z]; exact hel
        · rw [z]; exact hil
      rw [upd_ne (Nat.ne_of_lt hb')]
      exact (hf b hb).1
  done := by
    intro X hP hw hK hc i pins s σ H E I hf st hg
    subst hP hw hK
    obtain ⟨⟨old, he⟩, hit, hne, hai, hae⟩ := st
    obtain ⟨xs, hq, hx⟩ := hg
    obtain ⟨its, rv, p, hz⟩ := I.tuple hq
    have hh : X.A.in1.handled = none := I.ok.hd hc
    obtain ⟨f0, f1, f2, f3, f4, f5⟩ := hf it (by simp)
    have hn : its.toArray.size = i := by rw [List.size_toArray, ← rv.length]; exact hx
    exact wpAny_pyNext_enum_endD (Draws.tuple (prog := X.prog) (w := X.w) hh it a hai its.toArray) he ⟨by rw [hn]; exact hit, p⟩ fun h' eb => ⟨rfl, I.turned (t' := s.toks) (fun b o hb q => eb b o hb q) f0 f1 f3 f4 f5⟩
  self := fun A i s Q E st h => by
    obtain ⟨⟨_, he⟩, _⟩ := st
    exact wpAny_pyIter_enum he h
def iEnT (K : PySem.W.Frag) (ta : TA) : TI := fun σ H R => ta σ H fun vs H1 => ∃ a xs, vs = [.ref a] ∧ SqT K H1 a xs ∧ R (ItEt K a) H1
theorem pi_enumT {X : Cx} {e : Expr} {ta : TA} {p pos tpos : Pos} {elts : List Expr} {kk : Nat} (hg : Gl X "enumerate") (hm : X.mg "enumerate" = none) (ha : PA X [e] ta) (hs : starEach [e] X.env = [(false, eval e X.env)] := by rfl) :
    PI X (.Tuple elts kk tpos) (.Call (.Name "enumerate" p) [e] [] pos) (iEnT X.K ta) := by
  refine ⟨fun pins s σ H R I h => ?_⟩
  refine Call_ (ld_blt I hg hm boot_enumerate (PyProof.Rows.callWith_type1 (thn (ha.run pos pins s σ H _ I h) fun us s1 ⟨vs, H1, I1, r1, q1⟩ => ?_) hs rfl))
  obtain ⟨a, xs, ex, hq, q⟩ := q1
  subst ex
  cases r1 with
  | cons r rr =>
    cases rr
    cases r
    obtain ⟨its, rv, p', hz⟩ := I1.tuple hq
    refine enum1 (begins_tuple a its.toArray) p' fun h' he hit hk => wpAny_pyIter_enum he ?_
    have I2 : Inv X pins σ H1 { s1 with heap := h' } := I1.kept (t' := s1.toks) hk
    have hal : a < s1.heap.objs.size := by obtain ⟨_, q, _⟩ := p'; exact Heap.lt_size q
    refine ⟨s1.heap.objs.size + 1, [s1.heap.objs.size + 1, s1.heap.objs.size], _, _, H1, rfl, I2, turn_enumT a (s1.heap.objs.size + 1) s1.heap.objs.size, ⟨⟨.none, he⟩, ⟨_, hit, rfl, rfl⟩, Nat.succ_ne_self _, Nat.ne_of_lt hal, Nat.ne_of_lt (Nat.lt_succ_of_lt hal)⟩, fun b hb => ?_, q⟩
    have hle : s1.heap.objs.size ≤ b := by
      rcases (by simpa using hb : b = s1.heap.objs.size + 1 ∨ b = s1.heap.objs.size) with z | z
      · rw [z]; exact Nat.le_add_right _ _
      · rw [z]; exact Nat.le_refl _
    exact I1.fpOk hle (I1.hok.fresh hle)
theorem walk_enumT {K : PySem.W.Frag} {a : Addr} {xs : List V} : Walk (ItEt K a) xs.length (fun H => SqT K H a xs) (YPair (fun i => some (.int (i : Nat))) (fun i => xs[i]?)) :=
  ⟨fun i _ hi q => ⟨xs, xs[i], q, by simp [hi]⟩, fun _ q => ⟨xs, q, rfl⟩, fun i H v H' _ q ⟨T, x, e1, e2, e3, e4⟩ => ⟨T, _, x, e1, e2, e3, rfl, e4 xs q⟩⟩
end Toy

namespace Toy
open PySem PySem.Spec PyProof.Rows L2
/-! isinstance, by the names of the built-in types -/
def tyN (H : Hp) : V → Option String
  | .non => some "NoneType"
  | .bl _ => some "bool"
  | .int _ => some "int"
  | .str _ => some "str"
  | .ref a => match H a with
    | some (.lst _) => some "list"
    | some (.tup _) => some "tuple"
    | some (.dK _) => some "dict"
    | some (.dT _) => some "dict"
    | _ => none
  | _ => none
theorem tyN_x {K : PySem.W.Frag} {H : Hp} {v : V} {n : String} (h : tyN H v = some n) : TyX K H v (.type n) := by
  cases v with
  | non => cases h; exact .base .non
  | bl b => cases h; exact .base (.bl b)
  | int i => cases h; exact .base (.int i)
  | str z => cases h; exact .base (.str z)
  | ref a =>
    unfold tyN at h
    cases e : H a with
    | none => simp only [e] at h; cases h
    | some o =>
      cases o with
      | lst xs => simp only [e] at h; cases h; exact .base (.lst e)
      | tup xs => simp only [e] at h; cases h; exact .base (.tup e)
      | dK kvs => simp only [e] at h; cases h; exact .base (.dK e)
      | dT kvs => simp only [e] at h; cases h; exact .base (.dT e)
      | _ => simp only [e] at h; cases h
  | _ => cases h
theorem tyN_keep {H H' : Hp} {v : V} {n : String} (k : Same H H') (h : tyN H v = some n) : tyN H' v = some n := by
  cases v with
  | ref a =>
    cases e : H a with
    | none => unfold tyN at h; simp only [e] at h; cases h
    | some o => have e' := k a o e; unfold tyN at h ⊢; simp only [e, e'] at h ⊢; exact h
  | _ => exact h
section
variable {X : Cx}
def rIsN (T : String) : List V → Hp → VK → Prop := fun xs H Q => ∃ (x : V) (n : String) (b : Bool), xs = [x, .ty T] ∧ tyN H x = some n ∧ kitB n T = some b ∧ Q (.bl b) H
theorem call_isN {T : String} : CallR X (.builtin "isinstance") (rIsN T) := by
  intro pins s σ H xs us Q I r h
  obtain ⟨x, n, b, e, h1, h2, q⟩ := h
  exact call_isi pins s σ H xs us Q I r ⟨x, .ty T, _, _, b, e, .ty T, tyN_x h1, kit_ty h2, q⟩
/-- isinstance(x, (T, U)) -/
def rIsN2 (T U : String) : List V → Hp → VK → Prop := fun xs H Q => ∃ (x : V) (tp : Addr) (n : String) (b : Bool), xs = [x, .ref tp] ∧ H tp = some (.tup [.ty T, .ty U]) ∧ tyN H x = some n ∧ (n = T → b = true) ∧ (n = U → b = true) ∧
  ((∃ b1 b2, kitB n T = some b1 ∧ kitB n U = some b2 ∧ b = (b1 || b2)) ∧ Q (.bl b) H)
theorem call_isN2 {T U : String} : CallR X (.builtin "isinstance") (rIsN2 T U) := by
  intro pins s σ H xs us Q I r h
  obtain ⟨x, tp, n, b, e, ht, h1, _, _, ⟨b1, b2, k1, k2, eb⟩, q⟩ := h
  refine call_isiT pins s σ H xs us Q I r ⟨x, tp, _, _, [.type T, .type U], b, e, ht, .cons (.ty T) (.cons (.ty U) .nil), tyN_x h1, ?_, q⟩
  refine kitAny_cons (kit_ty k1) (fun z => kitAny_cons (kit_ty k2) (fun z2 => ?_) (fun z2 => ?_)) (fun z => ?_)
  · rw [eb, z, z2]; exact kitAny_nil
  · rw [eb, z, z2]; rfl
  · rw [eb, z]; rfl
/-! in: a list, a tuple, a dict -/
def rInDct : R2 := fun x y H Q => ∃ a o, y = .ref a ∧ DGet H a x o ∧ Q (.bl o.isSome) H
theorem op_in_dct (hu : X.A.units + 1 < cLine) : OpR X (compareOp .In) rInDct := by
  intro pins s σ H x y v u Q I rx ry h
  obtain ⟨a, o, rfl, g, q⟩ := h
  obtain rfl : u = Value.ref a := ry
  exact d_in hu I g rx fun s3 I3 => ⟨.bl o.isSome, H, I3, rfl, q⟩
theorem op_or {f : Value → Value → Sem Value} {r r' : R2} (h : OpR X f r) (h' : OpR X f r') : OpR X f (fun x y H Q => r x y H Q ∨ r' x y H Q) := by
  intro pins s σ H x y v u Q I rx ry q
  rcases q with q | q
  · exact h pins s σ H x y v u Q I rx ry q
  · exact h' pins s σ H x y v u Q I rx ry q
theorem call_or {f : Value} {r r' : List V → Hp → VK → Prop} (h : CallR X f r) (h' : CallR X f r') : CallR X f (fun xs H Q => r xs H Q ∨ r' xs H Q) := by
  intro pins s σ H xs us Q I rs q
  rcases q with q | q
  · exact h pins s σ H xs us Q I rs q
  · exact h' pins s σ H xs us Q I rs q
/-! ranges as values -/
theorem cr_rng1 : CallR X (.type "range") (fun vs H Q => ∃ j, vs = [V.int j] ∧ ∀ p, H p = none → Q (.ref p) (upd H p (.rng 0 j))) := by
  intro pins s σ H vs us Q I r h
  obtain ⟨j, rfl, q⟩ := h
  obtain ⟨u1, rfl, rj⟩ := vals1 r
  obtain ⟨t, rfl⟩ := rj
  refine call_range_1 ⟨.ref s.heap.objs.size, upd H s.heap.objs.size (.rng 0 j), I.laid (t' := s.toks + 1 + 1) (fun b o e => Heap.get?_push_of_some _ e) (Nat.le_refl _) ?_, rfl, q _ (I.hok.fresh (Nat.le_refl _))⟩
  exact ⟨_, _, _, Heap.get?_push_size _ rfl⟩
def iRngV (te : TE) : TI := fun σ H R => te σ H fun x H1 => ∃ (a : Addr) (lo hi : Int), x = .ref a ∧ H1 a = some (.rng lo hi) ∧ -(2 ^ 62) ≤ lo ∧ lo < 2 ^ 62 ∧ -(2 ^ 62) ≤ hi ∧ hi < 2 ^ 62 ∧ R (Itr lo (hi - lo).toNat) H1
theorem pi_rngV {tg e : Expr} {te : TE} (he : PE X e te) : PI X tg e (iRngV te) := by
  refine ⟨fun pins s σ H R I h => ?_⟩
  refine thn (he.run pins s σ H _ I h) fun v s1 ⟨x, H1, I1, rx, a, lo, hi, ex, ha, h1, h2, h3, h4, q⟩ => ?_
  subst ex
  obtain rfl : v = Value.ref a := rx
  obtain ⟨t, u, w', ho⟩ := I1.hok a _ ha
  have hn : Builtin.Range.rangeSize lo hi 1 = (((hi - lo).toNat : Nat) : Int) := by
    unfold Builtin.Range.rangeSize
    split <;> split <;> omega
  refine range_begins (n := (hi - lo).toNat) ho (small_one h1 h2 h3 h4) hn fun h' hit hsz hk => ?_
  have I2 : Inv X pins σ H1 { s1 with heap := h' } := I1.kept (t' := s1.toks) hk
  refine ⟨s1.heap.objs.size, [s1.heap.objs.size], _, _, H1, rfl, I2, turn_range _ lo (hi - lo).toNat, range_st hit, fun b hb => ?_, q⟩
  obtain rfl : b = s1.heap.objs.size := by simpa using hb
  exact I1.fpOk (Nat.le_refl _) (I1.hok.fresh (Nat.le_refl _))
/-! min of a list of data -/
def rMinD (K : PySem.W.Frag) : List V → Hp → VK → Prop := fun vs H Q => ∃ (a : Addr) (xs : List V) (d : PyData) (ds : List PyData), vs = [.ref a] ∧ SqL K H a xs ∧ DpAll K H xs (d :: ds) ∧ PySem.W.AlikeAll (d :: ds) ∧ PyData.depthAll (d :: ds) ≤ 60 ∧
  ∀ (i : Nat) v, xs[i]? = some v → (d :: ds)[i]? = some (PySem.W.minD d ds) → Q v H
theorem dp_at {K : PySem.W.Frag} {H : Hp} : ∀ {xs : List V} {ds : List PyData} {i : Nat} {v : V}, DpAll K H xs ds → xs[i]? = some v → ∃ d, ds[i]? = some d ∧ Dp K H v d
  | _, _, _, _, .nil, e => by simp at e
  | _, _, 0, _, .cons r _, e => by simp at e; subst e; exact ⟨_, rfl, r⟩
  | _, _, i + 1, x, .cons _ t, e => by
    obtain ⟨y, h1, h2⟩ := dp_at (i := i) (v := x) t (by simpa using e)
    exact ⟨y, by simpa using h1, h2⟩
theorem cr_minD (hc : X.calm = true) (hu : X.A.units + 64 < cLine) : CallR X (.builtin "min") (rMinD X.K) := by
  intro pins s σ H vs us Q I r h
  obtain ⟨a, xs, d, ds, rfl, hs, hd, al, hz, q⟩ := h
  obtain ⟨u, rfl, ru⟩ := vals1 r
  obtain rfl : u = Value.ref a := ru
  obtain ⟨its, rv, p, _⟩ := I.list hs
  obtain ⟨as, hr⟩ := Dp.readsAll I (d :: ds) xs its hd rv
  refine PySem.W.min_list_data (I.ok.hd hc) p.isList (by simpa using hr) al (by omega) fun i v h' tk bs hv hrd hk => ?_
  rw [List.getElem?_toArray] at hv
  obtain ⟨x, hx, rx⟩ := prd_at2 rv hv
  obtain ⟨e, he, de⟩ := dp_at hd hx
  obtain ⟨cs, hre⟩ := Dp.reads I e x v de rx
  have hre' : Reads h' v e cs := PySem.W.reads_keeps hk hre
  have eq1 := hrd.unique e cs hre'
  refine ⟨x, H, I.kept (t' := tk) hk, rx, q i x hx ?_⟩
  rw [he, eq1.1]
end
end Toy

namespace Toy
open PySem PySem.Spec PyProof.Rows L2
theorem tyN_mem {H : Hp} {v : V} {n : String} (h : tyN H v = some n) : n ∈ ["NoneType", "bool", "int", "str", "list", "tuple", "dict"] := by
  cases v with
  | ref a =>
    unfold tyN at h
    cases e : H a with
    | none => simp only [e] at h; cases h
    | some o => cases o <;> simp only [e] at h <;> cases h <;> simp
  | _ => cases h <;> simp
theorem kit7_all : ∀ n ∈ ["NoneType", "bool", "int", "str", "list", "tuple", "dict"], ∀ T ∈ ["bool", "int", "str", "list", "tuple", "dict"], kitB n T = some (n == T || (n == "bool" && T == "int")) := by
  decide +kernel
theorem kit7 {H : Hp} {v : V} {n T : String} (h : tyN H v = some n) (hT : T ∈ ["bool", "int", "str", "list", "tuple", "dict"]) : kitB n T = some (n == T || (n == "bool" && T == "int")) := kit7_all n (tyN_mem h) T hT
theorem tyN_int {H : Hp} {v : V} (h : tyN H v = some "int") : ∃ i, v = .int i := by
  cases v with
  | int i => exact ⟨i, rfl⟩
  | ref a =>
    unfold tyN at h
    cases e : H a with
    | none => simp only [e] at h; cases h
    | some o => cases o <;> simp only [e] at h <;> simp at h
  | _ => simp [tyN] at h
theorem tyN_str {H : Hp} {v : V} (h : tyN H v = some "str") : ∃ i, v = .str i := by
  cases v with
  | str i => exact ⟨i, rfl⟩
  | ref a =>
    unfold tyN at h
    cases e : H a with
    | none => simp only [e] at h; cases h
    | some o => cases o <;> simp only [e] at h <;> simp at h
  | _ => simp [tyN] at h
theorem tyN_tup {H : Hp} {v : V} (h : tyN H v = some "tuple") : ∃ a xs, v = .ref a ∧ H a = some (.tup xs) := by
  cases v with
  | ref a =>
    unfold tyN at h
    cases e : H a with
    | none => simp only [e] at h; cases h
    | some o =>
      cases o with
      | tup xs => exact ⟨a, xs, rfl, e⟩
      | _ => simp only [e] at h <;> simp at h
  | _ => simp [tyN] at h
def spIsInt : Sp := fun vs H Q _ => ∃ (v : V) (n : String), vs = [v] ∧ tyN H v = some n ∧ Q (.bl (n == "int")) H
theorem tyN_bl {H : Hp} {v : V} (h : tyN H v = some "bool") : ∃ i, v = .bl i := by
  cases v with
  | bl i => exact ⟨i, rfl⟩
  | ref a =>
    unfold tyN at h
    cases e : H a with
    | none => simp only [e] at h; cases h
    | some o => cases o <;> simp only [e] at h <;> simp at h
  | _ => simp [tyN] at h
def isI : V → Bool
  | .int _ => true
  | _ => false
def isNat : V → Bool
  | .int i => decide (0 ≤ i)
  | _ => false
def isBelow (m : Int) : V → Bool
  | .int i => decide (0 ≤ i ∧ i < m)
  | _ => false
theorem isI_n {H : Hp} {v : V} {n : String} (h : tyN H v = some n) : (n == "int") = isI v := by
  cases v with
  | ref a =>
    unfold tyN at h
    cases e : H a with
    | none => simp only [e] at h; cases h
    | some o => cases o <;> simp only [e] at h <;> cases h <;> rfl
  | _ => cases h <;> rfl
theorem isNat_no {v : V} (h : isI v = false) : isNat v = false := by cases v <;> first | rfl | cases h
theorem isBelow_no {m : Int} {v : V} (h : isNat v = false) : isBelow m v = false := by
  cases v with
  | int i =>
    have h : decide (0 ≤ i) = false := h
    have h := of_decide_eq_false h
    exact decide_eq_false fun z => h z.1
  | _ => rfl
/-- texts: 1 to 8 letters -/
def isNm : V → Bool
  | .str z => decide (1 ≤ z.length ∧ z.length ≤ 8 ∧ ∀ c ∈ z.cps.toList, 97 ≤ c ∧ c ≤ 122)
  | _ => false
theorem dec_int (a b : Int) : decide (V.int a = V.int b) = decide (a = b) := by
  by_cases e : a = b
  · subst e; simp
  · have h : ¬ V.int a = V.int b := fun q => e (by injection q)
    rw [decide_eq_false h, decide_eq_false e]
def spIsInteger : Sp := fun vs H Q _ => ∃ (v : V) (n : String), vs = [v] ∧ tyN H v = some n ∧ Q (.bl (isI v)) H
def spIsNatural : Sp := fun vs H Q _ => ∃ (v : V) (n : String), vs = [v] ∧ tyN H v = some n ∧ Q (.bl (isNat v)) H
def spIsBelow : Sp := fun vs H Q _ => ∃ (v : V) (n : String) (m : Int), vs = [v, .int m] ∧ tyN H v = some n ∧ Q (.bl (isBelow m v)) H
def spIsRow : Sp := fun vs H Q _ => ∃ (v : V) (n : String), vs = [v] ∧ tyN H v = some n ∧ ∀ H', Same H H' → Q (.bl (n == "list" || n == "tuple")) H'
def spIsPrice : Sp := fun vs H Q _ => ∃ (v : V) (n : String), vs = [v] ∧ tyN H v = some n ∧ Q (.bl (isBelow 10 v)) H
/-- a tuple of so many -/
def isTup (H : Hp) (m : Int) : V → Bool
  | .ref a => match H a with
    | some (.tup xs) => decide ((xs.length : Int) = m)
    | _ => false
  | _ => false
theorem isTup_no {H : Hp} {m : Int} {v : V} {n : String} (h : tyN H v = some n) (hn : (n == "tuple") = false) : isTup H m v = false := by
  cases v with
  | ref a =>
    unfold tyN at h; unfold isTup
    cases e : H a with
    | none => simp only [e]
    | some o => cases o <;> simp only [e] at h ⊢ <;> cases h <;> simp at hn
  | _ => rfl
def spIsTupleOf : Sp := fun vs H Q _ => ∃ (v : V) (n : String) (m : Int), vs = [v, .int m] ∧ tyN H v = some n ∧ Q (.bl (isTup H m v)) H
theorem abc_mem (c : Nat) : decide (c ∈ (Str.ofString "abcdefghijklmnopqrstuvwxyz").cps.toList) = decide (97 ≤ c ∧ c ≤ 122) := by
  have e : (Str.ofString "abcdefghijklmnopqrstuvwxyz").cps.toList = [97,98,99,100,101,102,103,104,105,106,107,108,109,110,111,112,113,114,115,116,117,118,119,120,121,122] := by decide +kernel
  rw [e]
  have h : (c ∈ [97,98,99,100,101,102,103,104,105,106,107,108,109,110,111,112,113,114,115,116,117,118,119,120,121,122]) ↔ (97 ≤ c ∧ c ≤ 122) := by
    simp only [List.mem_cons, List.not_mem_nil, or_false]
    omega
  exact decide_eq_decide.mpr h
/-- name in names: a tuple or list of texts, or a dict of texts -/
def spIsKnown : Sp := fun vs H Q _ => ∃ (z : Str) (v : V), vs = [.str z, v] ∧
  ((∃ (a : Addr) (zs : List Str), v = .ref a ∧ (H a = some (.tup (zs.map V.str)) ∨ H a = some (.lst (zs.map V.str))) ∧ Q (.bl (decide (z ∈ zs))) H) ∨ ∃ (a : Addr) (kvs : List (Key × V)), v = .ref a ∧ H a = some (.dK kvs) ∧ Q (.bl (valV kvs (.inr z : Key)).isSome) H)
def spIsName : Sp := fun vs H Q _ => ∃ (v : V) (n : String), vs = [v] ∧ tyN H v = some n ∧ (∀ z, v = .str z → z.length ≤ sizeLine) ∧ ∀ H', Same H H' → Q (.bl (isNm v)) H'
end Toy

namespace Toy
open PySem PySem.Spec PyProof.Rows L2
theorem nd_t {p : Prop} [Decidable p] (h : (!decide p) = true) : ¬ p := by simpa using h
theorem nd_f {p : Prop} [Decidable p] (h : ¬ (!decide p) = true) : p := by simpa using h
def rTupOf (K : PySem.W.Frag) : List V → Hp → VK → Prop := fun xs H Q => ∃ p ys, xs = [.ref p] ∧ ((SqL K H p ys ∧ ∀ l, H l = none → Q (.ref l) (upd H l (.tup ys))) ∨ (SqT K H p ys ∧ Q (.ref p) H))
def rListOf (K : PySem.W.Frag) : List V → Hp → VK → Prop := fun xs H Q => ∃ p ys, xs = [.ref p] ∧ (SqL K H p ys ∨ SqT K H p ys) ∧ ∀ l, H l = none → Q (.ref l) (upd H l (.lst ys))
def rLenSeq (K : PySem.W.Frag) : List V → Hp → VK → Prop := fun xs H Q => ∃ p ys, xs = [.ref p] ∧ (SqL K H p ys ∨ SqT K H p ys) ∧ Q (.int ys.length) H
def spIsMoves : Sp := fun vs H Q _ => ∃ (v : V) (rows : List (List Int)) (n top : Int), vs = [v] ∧ TupT IntT H v rows ∧ Square n top rows ∧ 1 ≤ n ∧ n ≤ 6 ∧ top ≤ 9 ∧ ∀ H', Same H H' → Q (.bl true) H'
def spIsPrices : Sp := fun vs H Q _ => ∃ (v : V) (row : List (Option Int)) (n top : Int), vs = [v, .int n] ∧ OptT H v row ∧ Prices n top row ∧ n ≤ 6 ∧ top ≤ 9 ∧ ∀ H', Same H H' → Q (.bl true) H'
def spIsRequests : Sp := fun vs H Q _ => ∃ (d : Addr) (kvs : List (Key × V)) (rs : List (Str × List (Option Int))) (n top : Int), vs = [.ref d, .int n] ∧ H d = some (.dK kvs) ∧ DctOf OptT H kvs rs ∧ (rs.map (·.1)).Nodup ∧ 1 ≤ rs.length ∧ rs.length ≤ 5 ∧ (∀ q ∈ rs, Prices n top q.2 ∧ Name 8 q.1) ∧ n ≤ 6 ∧ top ≤ 9 ∧ ∀ H', Same H H' → Q (.bl true) H'
theorem ty_tup {H : Hp} {a : Addr} {xs : List V} (h : H a = some (.tup xs)) : tyN H (.ref a) = some "tuple" := by unfold tyN; simp only [h]
theorem ty_dK {H : Hp} {a : Addr} {xs : List (Key × V)} (h : H a = some (.dK xs)) : tyN H (.ref a) = some "dict" := by unfold tyN; simp only [h]
theorem rep_snoc (n : Nat) : (List.replicate n true).map V.bl ++ [V.bl true] = (List.replicate (n + 1) true).map V.bl := by
  rw [List.replicate_succ', List.map_append]; rfl
theorem rep_all (n : Nat) : (List.replicate n true).all id = true := by
  rw [List.all_eq_true]; intro x hx; rw [List.eq_of_mem_replicate hx]; rfl
theorem map_at {α : Type} {f : α → V} {xs : List α} {i : Nat} {x : V} (h : (xs.map f)[i]? = some x) : ∃ y, xs[i]? = some y ∧ x = f y := by
  rw [List.getElem?_map] at h
  cases e : xs[i]? with
  | none => rw [e] at h; cases h
  | some y => rw [e] at h; exact ⟨y, rfl, (Option.some.inj h).symm⟩
theorem same_upd {H H' : Hp} {D : Addr} {o : HO} (k : Same H H') (n : H D = none) : Same H (upd H' D o) := fun b u e => by
  rw [upd_ne (ne_of_none e n)]; exact k b u e
theorem tup_isTup {H : Hp} {a : Addr} {xs : List V} {m : Int} (h : H a = some (.tup xs)) (e : (xs.length : Int) = m) : isTup H m (.ref a) = true := by
  unfold isTup; simp only [h]; exact decide_eq_true e
theorem below_int {i m : Int} (h : 0 ≤ i) (h2 : i < m) : isBelow m (.int i) = true := decide_eq_true ⟨h, h2⟩
theorem nm_of {z : Str} (h : Name 8 z) : isNm (.str z) = true := decide_eq_true ⟨h.lo, by have := h.hi; omega, h.low.c⟩
theorem small_pt {α : Type} {xs : List α} {n : Int} (h : (xs.length : Int) = n) (h2 : n ≤ 100) : xs.length < sizeLine := small1000 (by omega)
end Toy

/-! least ways in a matrix of prices: plain mathematics -/
namespace Toy
/-- ways are told backwards: the head is the end, the last one the start -/
def rc (R : Nat → Nat → Int) : List Nat → Int
  | [] => 0
  | [_] => 0
  | j :: p :: t => R p j + rc R (p :: t)
structure Way (n i j : Nat) (l : List Nat) : Prop where
  hd : l.head? = some j
  la : l.getLast? = some i
  lt : ∀ x ∈ l, x < n
structure Least (n : Nat) (R M : Nat → Nat → Int) : Prop where
  has : ∀ i j, i < n → j < n → ∃ l, Way n i j l ∧ rc R l = M i j
  le : ∀ i j l, i < n → j < n → Way n i j l → M i j ≤ rc R l
theorem Least.uniq {n : Nat} {R M M' : Nat → Nat → Int} (a : Least n R M) (b : Least n R M') {i j : Nat} (hi : i < n) (hj : j < n) : M i j = M' i j := by
  obtain ⟨l, w, e⟩ := a.has i j hi hj
  obtain ⟨l', w', e'⟩ := b.has i j hi hj
  have h1 := a.le i j l' hi hj w'
  have h2 := b.le i j l hi hj w
  omega
theorem rc_app (R : Nat → Nat → Int) (x : Nat) (c : List Nat) : ∀ a : List Nat, rc R (a ++ x :: c) = rc R (a ++ [x]) + rc R (x :: c)
  | [] => by simp [rc]
  | [y] => by simp [rc]
  | y :: z :: a => by
    have ih := rc_app R x c (z :: a)
    simp only [List.cons_append, rc] at ih ⊢
    omega
theorem rc_nn {R : Nat → Nat → Int} {n : Nat} (h : ∀ i j, i < n → j < n → 0 ≤ R i j) : ∀ l : List Nat, (∀ x ∈ l, x < n) → 0 ≤ rc R l
  | [], _ => Int.le_refl _
  | [_], _ => Int.le_refl _
  | j :: p :: t, hl => by
    have h1 := rc_nn h (p :: t) (fun x hx => hl x (List.mem_cons_of_mem _ hx))
    have h2 := h p j (hl p (by simp)) (hl j (by simp))
    simp only [rc]
    omega
/-! the triangle -/
structure Tri (n : Nat) (M : Nat → Nat → Int) (m : Nat) : Prop where
  z : ∀ i, i < n → M i i = 0
  nn : ∀ i j, i < n → j < n → 0 ≤ M i j
  tri : ∀ i j k, i < n → j < n → k < m → M i j ≤ M i k + M k j
def ph (M : Nat → Nat → Int) (m : Nat) : Nat → Nat → Int := fun i j => if M i m + M m j < M i j then M i m + M m j else M i j
theorem ph_le {M : Nat → Nat → Int} {m i j : Nat} : ph M m i j ≤ M i j ∧ ph M m i j ≤ M i m + M m j ∧ (ph M m i j = M i j ∨ ph M m i j = M i m + M m j) := by
  unfold ph; split <;> omega
theorem Tri.ph {n m : Nat} {M : Nat → Nat → Int} (t : Tri n M m) (hm : m < n) : Tri n (ph M m) (m + 1) := by
  refine ⟨fun i hi => ?_, fun i j hi hj => ?_, fun i j k hi hj hk => ?_⟩
  · have h := @ph_le M m i i
    have h0 := t.z i hi
    have h1 := t.nn i m hi hm
    have h2 := t.nn m i hm hi
    omega
  · have h := @ph_le M m i j
    have h0 := t.nn i j hi hj
    have h1 := t.nn i m hi hm
    have h2 := t.nn m j hm hj
    omega
  · have hij := @ph_le M m i j
    have hik := @ph_le M m i k
    have hkj := @ph_le M m k j
    have hz := t.z m hm
    have n1 := t.nn i m hi hm
    have n2 := t.nn m j hm hj
    by_cases e : k = m
    · subst e
      omega
    · have hk' : k < m := by omega
      have t1 := t.tri i j k hi hj hk'
      have t2 := t.tri m j k hm hj hk'
      have t3 := t.tri i m k hi hm hk'
      have t4 := t.tri m m k hm hm hk'
      omega
structure Snd (n : Nat) (R M : Nat → Nat → Int) : Prop where
  has : ∀ i j, i < n → j < n → ∃ l, Way n i j l ∧ rc R l = M i j
theorem way_cat {n i m j : Nat} {a b : List Nat} {R : Nat → Nat → Int} (w : Way n i m a) (u : Way n m j b) : ∃ l, Way n i j l ∧ rc R l = rc R a + rc R b := by
  obtain ⟨a', rfl⟩ : ∃ a', a = m :: a' := by
    cases a with
    | nil => cases w.hd
    | cons x t => have := w.hd; simp at this; subst this; exact ⟨t, rfl⟩
  obtain ⟨b', rfl⟩ : ∃ b', b = b' ++ [m] := by
    have hb := u.la
    exact ⟨b.dropLast, by
      have hne : b ≠ [] := by rintro rfl; cases hb
      have := List.dropLast_concat_getLast hne
      rw [List.getLast?_eq_some_getLast hne] at hb
      rw [← Option.some.inj hb]
      exact this.symm⟩
  refine ⟨b' ++ m :: a', ⟨?_, ?_, ?_⟩, ?_⟩
  · have := u.hd
    cases b' with
    | nil => simpa using this
    | cons x t => simpa using this
  · rw [List.getLast?_append]
    have := w.la
    rw [this]; rfl
  · intro x hx
    rcases List.mem_append.mp hx with q | q
    · exact u.lt x (List.mem_append.mpr (.inl q))
    · exact w.lt x q
  · rw [rc_app]; omega
theorem Snd.ph {n m : Nat} {R M : Nat → Nat → Int} (s : Snd n R M) (hm : m < n) : Snd n R (ph M m) := by
  refine ⟨fun i j hi hj => ?_⟩
  rcases (@ph_le M m i j).2.2 with e | e
  · rw [e]; exact s.has i j hi hj
  · rw [e]
    obtain ⟨a, w, ea⟩ := s.has i m hi hm
    obtain ⟨b, u, eb⟩ := s.has m j hm hj
    obtain ⟨l, wl, el⟩ := way_cat (R := R) w u
    exact ⟨l, wl, by omega⟩
theorem Least.of {n : Nat} {R M : Nat → Nat → Int} (t : Tri n M n) (s : Snd n R M) (h : ∀ i j, i < n → j < n → M i j ≤ R i j) : Least n R M := by
  refine ⟨s.has, ?_⟩
  intro i j l hi hj w
  have key : ∀ l : List Nat, ∀ j, Way n i j l → M i j ≤ rc R l := by
    intro l
    induction l with
    | nil => intro j w; cases w.hd
    | cons x t' ih =>
      intro j w
      have hx : x = j := by have := w.hd; simpa using this
      subst hx
      cases t' with
      | nil =>
        have : x = i := by have := w.la; simpa using this
        subst this
        rw [t.z x hi]
        exact Int.le_refl _
      | cons p t'' =>
        have hp := w.lt p (by simp)
        have hx := w.lt x (by simp)
        have w2 : Way n i p (p :: t'') := ⟨rfl, by have := w.la; rw [List.getLast?_cons_cons] at this; exact this, fun y hy => w.lt y (List.mem_cons_of_mem _ hy)⟩
        have h1 := ih p w2
        have h2 := t.tri i x p hi hx hp
        have h3 := h p x hp hx
        simp only [rc]
        omega
  exact key l j w
/-! short ways do -/
theorem pigeon : ∀ (n : Nat) (l : List Nat), (∀ x ∈ l, x < n) → l.Nodup → l.length ≤ n
  | 0, l, h, _ => by
    cases l with
    | nil => exact Nat.le_refl _
    | cons x t => exact absurd (h x (by simp)) (by omega)
  | n + 1, l, h, nd => by
    have h1 : (l.erase n).length ≤ n := pigeon n (l.erase n) (fun x hx => by
      have hx' := (List.Nodup.mem_erase_iff nd).mp hx
      have := h x hx'.2
      have := hx'.1
      omega) (nd.erase n)
    by_cases e : n ∈ l
    · have := List.length_erase_of_mem e
      have := List.length_pos_of_mem e
      omega
    · rw [List.erase_of_not_mem e] at h1
      omega
theorem dup : ∀ l : List Nat, ¬ l.Nodup → ∃ a x b c, l = a ++ x :: (b ++ x :: c)
  | [], h => absurd List.nodup_nil h
  | x :: t, h => by
    by_cases e : x ∈ t
    · obtain ⟨b, c, rfl⟩ := List.append_of_mem e
      exact ⟨[], x, b, c, rfl⟩
    · have : ¬ t.Nodup := fun q => h (List.nodup_cons.mpr ⟨e, q⟩)
      obtain ⟨a, y, b, c, rfl⟩ := dup t this
      exact ⟨x :: a, y, b, c, rfl⟩
theorem short {n : Nat} {R : Nat → Nat → Int} (h : ∀ i j, i < n → j < n → 0 ≤ R i j) {i j : Nat} : ∀ (k : Nat) (l : List Nat), l.length ≤ k → Way n i j l → ∃ l', Way n i j l' ∧ l'.length ≤ n ∧ rc R l' ≤ rc R l
  | 0, l, hk, w => by
    cases l with
    | nil => cases w.hd
    | cons x t => simp at hk
  | k + 1, l, hk, w => by
    by_cases hn : l.length ≤ n
    · exact ⟨l, w, hn, Int.le_refl _⟩
    · have hd : ¬ l.Nodup := fun q => hn (pigeon n l w.lt q)
      obtain ⟨a, x, b, c, rfl⟩ := dup l hd
      have w' : Way n i j (a ++ x :: c) := by
        refine ⟨?_, ?_, ?_⟩
        · have := w.hd
          cases a <;> simpa using this
        · have hl := w.la
          rw [List.getLast?_append] at hl ⊢
          have e : (x :: (b ++ x :: c)).getLast? = (x :: c).getLast? := by
            rw [show x :: (b ++ x :: c) = (x :: b) ++ x :: c from rfl, List.getLast?_append]
            cases hq : (x :: c).getLast? with
            | none => simp at hq
            | some y => rfl
          rw [e] at hl; exact hl
        · intro y hy
          refine w.lt y ?_
          simp only [List.mem_append, List.mem_cons] at hy ⊢
          rcases hy with q | q | q
          · exact .inl q
          · exact .inr (.inl q)
          · exact .inr (.inr (.inr (.inr q)))
      have hlen : (a ++ x :: c).length ≤ k := by
        simp only [List.length_append, List.length_cons] at hk ⊢
        omega
      obtain ⟨l', wl, el, rl⟩ := short h k _ hlen w'
      refine ⟨l', wl, el, Int.le_trans rl ?_⟩
      have e1 := rc_app R x c a
      have e2 := rc_app R x (b ++ x :: c) a
      have e3 := rc_app R x c (x :: b)
      rw [show (x :: b) ++ x :: c = x :: (b ++ x :: c) from rfl] at e3
      have e4 : 0 ≤ rc R ((x :: b) ++ [x]) := rc_nn h _ fun y hy => w.lt y (by
        simp only [List.mem_append, List.mem_cons, List.not_mem_nil, or_false] at hy ⊢
        rcases hy with (q | q) | q
        · exact .inr (.inl q)
        · exact .inr (.inr (.inl q))
        · exact .inr (.inl q))
      omega
/-- products with R, again and again -/
structure Bound (n k : Nat) (R L : Nat → Nat → Int) : Prop where
  b : ∀ i j l, i < n → j < n → Way n i j l → l.length ≤ k → L i j ≤ rc R l
theorem Least.prod {n k : Nat} {R L : Nat → Nat → Int} (h : ∀ i j, i < n → j < n → 0 ≤ R i j) (s : Snd n R L) (b : Bound n k R L) (hk : n ≤ k) : Least n R L := by
  refine ⟨s.has, fun i j l hi hj w => ?_⟩
  obtain ⟨l', w', e, r⟩ := short h l.length l (Nat.le_refl _) w
  exact Int.le_trans (b.b i j l' hi hj w' (by omega)) r
theorem Bound.step {n k : Nat} {R L L' : Nat → Nat → Int} (b : Bound n k R L) (z : ∀ i, i < n → R i i = 0) (hk : 1 ≤ k) (h : ∀ i j c, i < n → j < n → c < n → L' i j ≤ L i c + R c j) : Bound n (k + 1) R L' := by
  refine ⟨fun i j l hi hj w hl => ?_⟩
  cases l with
  | nil => cases w.hd
  | cons x t =>
    have hx : x = j := by have := w.hd; simpa using this
    subst hx
    cases t with
    | nil =>
      have h1 := h i x x hi hj hj
      have h2 := b.b i x [x] hi hj w (by simpa using hk)
      rw [z x hj] at h1
      simp only [rc] at h2 ⊢
      omega
    | cons p t =>
      have hp := w.lt p (by simp)
      have w2 : Way n i p (p :: t) := ⟨rfl, by have := w.la; rw [List.getLast?_cons_cons] at this; exact this, fun y hy => w.lt y (List.mem_cons_of_mem _ hy)⟩
      have h1 := h i x p hi hj hp
      have h2 := b.b i p (p :: t) hi hp w2 (by simp only [List.length_cons] at hl ⊢; omega)
      simp only [rc]
      omega
theorem Bound.two {n : Nat} {R : Nat → Nat → Int} (z : ∀ i, i < n → R i i = 0) : Bound n 2 R R := by
  refine ⟨fun i j l hi hj w hl => ?_⟩
  match l, w, hl with
  | [], w, _ => cases w.hd
  | [x], w, _ =>
    have h1 : x = j := by have := w.hd; simpa using this
    have h2 : x = i := by have := w.la; simpa using this
    subst h1; subst h2
    rw [z x hi]; exact Int.le_refl _
  | [x, y], w, _ =>
    have h1 : x = j := by have := w.hd; simpa using this
    have h2 : y = i := by have := w.la; simpa using this
    subst h1; subst h2
    simp only [rc]; exact Int.le_of_eq (by omega)
  | _ :: _ :: _ :: _, _, hl => simp at hl
theorem Snd.self {n : Nat} {R : Nat → Nat → Int} : Snd n R R :=
  ⟨fun i j hi hj => ⟨[j, i], ⟨rfl, rfl, by intro x hx; simp at hx; rcases hx with rfl | rfl <;> assumption⟩, by simp [rc]⟩⟩
theorem Snd.step {n : Nat} {R L L' : Nat → Nat → Int} (s : Snd n R L) (h : ∀ i j, i < n → j < n → ∃ c, c < n ∧ L' i j = L i c + R c j) : Snd n R L' := by
  refine ⟨fun i j hi hj => ?_⟩
  obtain ⟨c, hc, e⟩ := h i j hi hj
  obtain ⟨a, w, ea⟩ := s.has i c hi hc
  obtain ⟨b, u, eb⟩ := (Snd.self (R := R)).has c j hc hj
  obtain ⟨l, wl, el⟩ := way_cat (R := R) w u
  exact ⟨l, wl, by omega⟩
end Toy

namespace Toy
open PySem PySem.Spec PyProof.Rows L2
def mat (rows : List (List Int)) (i j : Nat) : Int := (rows.getD i []).getD j 0
def rowV (n : Nat) (f : Nat → Int) : List V := (List.range n).map fun j => V.int (f j)
theorem rowV_len (n : Nat) (f : Nat → Int) : (rowV n f).length = n := by unfold rowV; rw [List.length_map, List.length_range]
theorem rowV_at {n : Nat} {f : Nat → Int} {j : Nat} (h : j < n) : (rowV n f)[j]? = some (.int (f j)) := by
  unfold rowV; rw [List.getElem?_map, List.getElem?_range h]; rfl
theorem rowV_set {n : Nat} {f : Nat → Int} {e : Nat} {v : Int} : (rowV n f).set e (.int v) = rowV n fun j => if j = e then v else f j := by
  apply List.ext_getElem?
  intro j
  rw [List.getElem?_set]
  by_cases hj : j < n
  · rw [rowV_at hj, rowV_at hj, rowV_len]
    by_cases he : e = j
    · subst he; simp [hj]
    · have he' : ¬ j = e := fun q => he q.symm
      simp [he, he']
  · have h1 : (rowV n f)[j]? = none := List.getElem?_eq_none (by rw [rowV_len]; omega)
    have h2 : (rowV n fun j => if j = e then v else f j)[j]? = none := List.getElem?_eq_none (by rw [rowV_len]; omega)
    rw [h1, h2, rowV_len]
    by_cases he : e = j
    · subst he; simp [hj]
    · simp [he]
theorem rowV_of {n : Nat} {r : List Int} (h : r.length = n) : r.map V.int = rowV n fun j => r.getD j 0 := by
  apply List.ext_getElem?
  intro j
  by_cases hj : j < n
  · rw [rowV_at hj, List.getElem?_map, List.getElem?_eq_getElem (by omega)]
    rw [List.getD_eq_getElem?_getD, List.getElem?_eq_getElem (by omega)]
    rfl
  · rw [List.getElem?_eq_none (l := r.map V.int) (by rw [List.length_map]; omega), List.getElem?_eq_none (l := rowV n _) (by rw [rowV_len]; omega)]
theorem rowV_ints (n : Nat) (f : Nat → Int) : rowV n f = ((List.range n).map f).map V.int := by
  unfold rowV; rw [List.map_map]; rfl
/-- a matrix that is written: a list of lists -/
structure MatAt (H : Hp) (w : Addr) (as : List Addr) (n : Nat) (M : Nat → Nat → Int) : Prop where
  ws : H w = some (.lst (as.map V.ref))
  len : as.length = n
  nd : as.Nodup
  nw : w ∉ as
  row : ∀ (i : Nat) a, as[i]? = some a → H a = some (.lst (rowV n (M i)))
theorem MatAt.ext {H : Hp} {w : Addr} {as : List Addr} {n : Nat} {M M' : Nat → Nat → Int} (m : MatAt H w as n M) (h : ∀ i j, i < n → j < n → M i j = M' i j) : MatAt H w as n M' :=
  ⟨m.ws, m.len, m.nd, m.nw, fun i a e => by
    have hi : i < n := by rw [← m.len]; exact (List.getElem?_eq_some_iff.mp e).1
    rw [m.row i a e]
    congr 2
    unfold rowV
    apply List.map_congr_left
    intro j hj
    rw [h i j hi (List.mem_range.mp hj)]⟩
theorem MatAt.set {H : Hp} {w : Addr} {as : List Addr} {n : Nat} {M : Nat → Nat → Int} (m : MatAt H w as n M) {s e : Nat} {a : Addr} {v : Int} (hs : as[s]? = some a) :
    MatAt (upd H a (.lst (rowV n fun j => if j = e then v else M s j))) w as n (fun i j => if i = s ∧ j = e then v else M i j) := by
  have haw : w ≠ a := fun q => m.nw (by rw [q]; exact List.mem_of_getElem? hs)
  refine ⟨(upd_ne haw).trans m.ws, m.len, m.nd, m.nw, fun i b hb => ?_⟩
  by_cases hi : i = s
  · subst hi
    rw [hs] at hb
    obtain rfl := Option.some.inj hb
    rw [upd_same]
    simp
  · have hab : b ≠ a := by
      intro q
      subst q
      exact hi (nd_ix m.nd hb hs)
    rw [upd_ne hab, m.row i b hb]
    simp [hi]
structure Ways (n : Int) (rows ws : List (List Int)) : Prop where
  len : (ws.length : Int) = n
  row : ∀ r ∈ ws, (r.length : Int) = n
  least : Least n.toNat (mat rows) (mat ws)
def spLeastWays : Sp := fun vs H Q _ => ∃ (v : V) (rows : List (List Int)) (n top : Int), vs = [v] ∧ TupT IntT H v rows ∧ Square n top rows ∧ 1 ≤ n ∧ n ≤ 100 ∧
  ∀ v' ws H', Same H H' → TupT IntT H' v' ws → Ways n rows ws → Q v' H'
theorem mat_at {rows : List (List Int)} {i : Nat} {r : List Int} (h : rows[i]? = some r) (j : Nat) : mat rows i j = r.getD j 0 := by
  unfold mat
  have e : rows.getD i [] = r := by rw [List.getD_eq_getElem?_getD, h]; rfl
  rw [e]
theorem Square.nn {n top : Int} {rows : List (List Int)} (S : Square n top rows) : ∀ i j, i < n.toNat → j < n.toNat → 0 ≤ mat rows i j := by
  intro i j hi hj
  have hl := S.len
  have hr : rows[i]? = some rows[i] := List.getElem?_eq_getElem (by omega)
  rw [mat_at hr]
  have hm := S.row rows[i] (List.mem_of_getElem? hr)
  rw [List.getD_eq_getElem?_getD, List.getElem?_eq_getElem (by omega)]
  exact (hm.2 _ (List.getElem_mem _)).1
theorem Square.z {n top : Int} {rows : List (List Int)} (S : Square n top rows) : ∀ i, i < n.toNat → mat rows i i = 0 := by
  intro i hi
  have hl := S.len
  have hr : rows[i]? = some rows[i] := List.getElem?_eq_getElem (by omega)
  rw [mat_at hr, List.getD_eq_getElem?_getD, S.diag i _ hr]
  rfl
end Toy

namespace Toy
open PySem PySem.Spec PyProof.Rows L2
/-- a System's attributes -/
def sfs (mv : V) (n : Int) (nv wv : V) (q : Addr) : List (Str × V) := putF "_requests" (.ref q) (putF "ways" wv (putF "names" nv (putF "posts" (.int n) (putF "moves" mv []))))
section
variable {mv nv wv : V} {n : Int} {q : Addr}
theorem sfs_requests : (sfs mv n nv wv q).lookup ("_requests" : Str) = some (.ref q) := by unfold sfs; rw [lookup_putF, if_pos rfl]
theorem sfs_ways : (sfs mv n nv wv q).lookup ("ways" : Str) = some wv := by unfold sfs; rw [lookup_putF, if_neg (by decide +kernel), lookup_putF, if_pos rfl]
theorem sfs_names : (sfs mv n nv wv q).lookup ("names" : Str) = some nv := by unfold sfs; rw [lookup_putF, if_neg (by decide +kernel), lookup_putF, if_neg (by decide +kernel), lookup_putF, if_pos rfl]
theorem sfs_posts : (sfs mv n nv wv q).lookup ("posts" : Str) = some (.int n) := by unfold sfs; rw [lookup_putF, if_neg (by decide +kernel), lookup_putF, if_neg (by decide +kernel), lookup_putF, if_neg (by decide +kernel), lookup_putF, if_pos rfl]
theorem sfs_moves : (sfs mv n nv wv q).lookup ("moves" : Str) = some mv := by unfold sfs; rw [lookup_putF, if_neg (by decide +kernel), lookup_putF, if_neg (by decide +kernel), lookup_putF, if_neg (by decide +kernel), lookup_putF, if_neg (by decide +kernel), lookup_putF, if_pos rfl]
theorem sfs_no {m : Str} (h1 : ¬ m = "_requests") (h2 : ¬ m = "ways") (h3 : ¬ m = "names") (h4 : ¬ m = "posts") (h5 : ¬ m = "moves") : (sfs mv n nv wv q).lookup m = none := by
  unfold sfs; rw [lookup_putF, if_neg h1, lookup_putF, if_neg h2, lookup_putF, if_neg h3, lookup_putF, if_neg h4, lookup_putF, if_neg h5]; rfl
end
theorem putF_len (f : Str) (v : V) : ∀ fs : List (Str × V), (putF f v fs).length ≤ fs.length + 1
  | [] => Nat.le_refl _
  | (g, u) :: r => by
    have ih := putF_len f v r
    unfold putF
    split
    · simp
    · simp only [List.length_cons]; omega
theorem dct_keys {α : Type} {R : Hp → V → α → Prop} {H : Hp} : ∀ {kvs : List (Key × V)} {rs : List (Str × α)}, DctOf R H kvs rs → kvs.map (·.1) = (rs.map (·.1)).map Sum.inr
  | _, _, .nil => rfl
  | kv :: kvs, p :: rs, .cons r t => by
    have ih := dct_keys t
    simp only [List.map_cons] at ih ⊢
    rw [ih, r.1]
def pick {α : Type} (rs : List (Str × α)) (z : Str) (x : α) : Prop := (z, x) ∈ rs
/-- the pairs in another order of their keys -/
theorem reorder {α : Type} [Inhabited α] : ∀ {rs : List (Str × α)} {ys : List Str}, (rs.map (·.1)).Nodup → ys.Perm (rs.map (·.1)) → ∃ rs' : List (Str × α), rs'.map (·.1) = ys ∧ rs'.Perm rs := by
  intro rs ys nd hp
  let f : Str → Str × α := fun z => (z, ((rs.find? fun p => decide (p.1 = z)).map (·.2)).getD default)
  have hf : ∀ (l : List (Str × α)), (∀ p ∈ l, p ∈ rs) → (l.map (·.1)).map f = l := by
    intro l hl
    rw [List.map_map]
    conv => rhs; rw [← List.map_id l]
    apply List.map_congr_left
    intro p hpm
    have hpr := hl p hpm
    show f p.1 = p
    have key : ∀ (l : List (Str × α)), (l.map (·.1)).Nodup → p ∈ l → (l.find? fun q => decide (q.1 = p.1)) = some p := by
      intro l
      induction l with
      | nil => intro _ h; cases h
      | cons q t ih =>
        intro nd hm
        rw [List.map_cons] at nd
        obtain ⟨n1, n2⟩ := List.nodup_cons.mp nd
        rcases List.mem_cons.mp hm with e | hm
        · subst e; rw [List.find?_cons, decide_eq_true rfl]
        · have : ¬ q.1 = p.1 := fun e => n1 (by rw [e]; exact List.mem_map.mpr ⟨p, hm, rfl⟩)
          rw [List.find?_cons, decide_eq_false this]
          exact ih n2 hm
    show (p.1, ((rs.find? fun q => decide (q.1 = p.1)).map (·.2)).getD default) = p
    rw [key rs nd hpr]
    rfl
  refine ⟨ys.map f, ?_, ?_⟩
  · rw [List.map_map]
    conv => rhs; rw [← List.map_id ys]
    apply List.map_congr_left
    intro z _
    rfl
  · have h1 := hp.map f
    rw [hf rs fun p h => h] at h1
    exact h1
theorem keep4 {H : Hp} {p l t : Addr} {a b c d : HO} (nl : H l = none) (nt : H t = none) : Keep p H (upd (upd (upd (upd H p a) l b) t c) p d) := fun x o n e => by
  rw [upd_ne n, upd_ne (ne_of_none e nt), upd_ne (ne_of_none e nl), upd_ne n]; exact e
theorem take_nmem {α : Type} {xs : List α} (nd : xs.Nodup) {i : Nat} {x : α} (h : xs[i]? = some x) : ¬ x ∈ xs.take i := by
  intro m
  obtain ⟨j, hj, ej⟩ := List.getElem_of_mem m
  rw [List.getElem_take] at ej
  rw [List.length_take] at hj
  have h2 := (List.getElem?_eq_some_iff.mp h).2
  have := (List.getElem_inj nd).mp (ej.trans h2.symm)
  omega
theorem sortedS_perm_nd {ys zs : List Str} (h : ys.Perm zs) (nd : zs.Nodup) : ys.Nodup := h.nodup_iff.mpr nd
/-- what a System is made of -/
structure Sys where
  n : Int
  rows : List (List Int)
  ws : List (List Int)
  rs : List (Str × List (Option Int))
structure SysOk (S : Sys) : Prop where
  n1 : 1 ≤ S.n
  n6 : S.n ≤ 6
  sq : Square S.n 9 S.rows
  wy : Ways S.n S.rows S.ws
  nd : (S.rs.map (·.1)).Nodup
  srt : sortedS (S.rs.map (·.1)) = true
  r1 : 1 ≤ S.rs.length
  r5 : S.rs.length ≤ 5
  pr : ∀ q ∈ S.rs, Prices S.n 9 q.2 ∧ Name 8 q.1
structure SysAt (C : Addr) (H : Hp) (p : Addr) (S : Sys) : Prop where
  ex : ∃ (dx : Addr) (mv : V) (na : Addr) (wv : V) (q : Addr) (kvs : List (Key × V)), H p = some (.ins C dx (sfs mv S.n (.ref na) wv q)) ∧ TupT IntT H mv S.rows ∧ H na = some (.tup ((S.rs.map (·.1)).map V.str)) ∧ TupT IntT H wv S.ws ∧ H q = some (.dK kvs) ∧ DctOf OptT H kvs S.rs
theorem SysAt.same {C : Addr} {H H' : Hp} {p : Addr} {S : Sys} (A : SysAt C H p S) (k : Same H H') : SysAt C H' p S := by
  obtain ⟨dx, mv, na, wv, q, kvs, h1, h2, h3, h4, h5, h6⟩ := A.ex
  exact ⟨dx, mv, na, wv, q, kvs, k _ _ h1, TupT.firm IntT.firm H H' _ _ (same_tups k) h2, k _ _ h3, TupT.firm IntT.firm H H' _ _ (same_tups k) h4, k _ _ h5, h6.firm OptT.firm (same_tups k)⟩
def spSystem (C : Addr) : Sp := fun vs H Q _ => ∃ (p dx : Addr) (mv : V) (d : Addr) (rows : List (List Int)) (kvs : List (Key × V)) (rs : List (Str × List (Option Int))) (n : Int), vs = [.ref p, mv, .ref d] ∧ H p = some (.ins C dx []) ∧
  TupT IntT H mv rows ∧ Square n 9 rows ∧ 1 ≤ n ∧ n ≤ 6 ∧ H d = some (.dK kvs) ∧ DctOf OptT H kvs rs ∧ (rs.map (·.1)).Nodup ∧ 1 ≤ rs.length ∧ rs.length ≤ 5 ∧ (∀ q ∈ rs, Prices n 9 q.2 ∧ Name 8 q.1) ∧
  ∀ (S : Sys) (H' : Hp), SysOk S → S.n = n → S.rows = rows → S.rs.Perm rs → SysAt C H' p S → (∀ b o, b ≠ p → H b = some o → H' b = some o) → Q .non H'
end Toy

namespace Toy
open PySem PySem.Spec PyProof.Rows L2
/-! a comprehension within another one -/
def fake (fr : List Str) : Scope := { kind := .function, names := fr.map fun x => (x, NameKind.free), isGenerator := false, isCoroutine := false }
def AllF (sc : Scope) : List Str → Prop
  | [] => True
  | x :: t => (sc.names.lookup x = some .cell ∨ sc.names.lookup x = some .free) ∧ AllF sc t
theorem allF_mem {sc : Scope} {x : Str} : ∀ {fr : List Str}, AllF sc fr → x ∈ fr → sc.names.lookup x = some .cell ∨ sc.names.lookup x = some .free
  | y :: t, h, m => by
    rcases List.mem_cons.mp m with e | m
    · rw [e]; exact h.1
    · exact allF_mem h.2 m
theorem blkOk_fr {N : List Str} {sc scope : Scope} {own : List (Str × Nat)} (fr : List Str) (h : blkC N (fake fr) scope own = true) (hf : AllF sc fr) : BlkOk N sc scope own := by
  have b := blkOk_by h
  refine ⟨b.kind, b.uniq, b.ix, fun y hy e => ?_, b.own⟩
  refine allF_mem hf ?_
  have q : ∀ k, (fake fr).names.lookup y.1 = some k → y.1 ∈ fr := fun k q => by
    have m := PySem.mem_of_lookup q
    obtain ⟨x, hx, e⟩ := List.mem_map.mp m
    cases e
    exact hx
  rcases b.free y hy e with z | z
  · exact q _ z
  · exact q _ z
theorem tup_mul1 (l : Addr) (items : Array Value) (n : Nat) (dd : Option Addr) (sl : Array (Option Value)) (u : Tok) :
    Meets (Builtin.«tuple.__mul__» ⟨[.ref l, .int 1 u], []⟩) (fun _ R s => s.heap.get? l = some { cls := .type "tuple", dict := dd, data := .seq items n, slots := sl } ∧ R (.ok (.ret (Value.ref l))) s) :=
  .of_wp fun prog w A R s h => by
    obtain ⟨hp, g, d, tk, os⟩ := s
    obtain ⟨hl, h⟩ := h
    have f1 := AutoSeq1.idx_int
    have c0 : (decide ((1 : Int) < -(2 ^ 63)) || decide ((1 : Int) ≥ 2 ^ 63)) = false := by decide
    have c1 : (items.isEmpty || (1 : Int) == 1) = true := by simp
    wp_walk using AutoSeq1.wpAny_loadPart' hl
    exact ⟨_, rfl, h⟩
section
variable {X : Cx}
def rRep1 (K : PySem.W.Frag) : R2 := fun x y H Q => ∃ l xs, x = .ref l ∧ y = .int 1 ∧ SqT K H l xs ∧ Q (.ref l) H
theorem op_rep1 : OpR X (binaryOp .Mult) (rRep1 X.K) := by
  intro pins s σ H x y v u Q I rx ry h
  obtain ⟨l, xs, rfl, rfl, hT, q⟩ := h
  cases rx
  obtain ⟨t, rfl⟩ := ry
  obtain ⟨its, r, ⟨⟨cls, dd, data, sl⟩, ho, hc, n, hd⟩, hs⟩ := I.tuple hT
  simp only at hc hd
  subst hc hd
  exact wpAny_binaryOp_repeat_ref (T := "tuple") (U := "int") (by decide) ⟨_, ho, rfl⟩ (fun s' => typeIs_int s' 1 t) noFill_tuple_mul F.fills_int_mul F.slot_int_rmul repeat_tuple F.slot_int_index.lookup
    (call_meets F.slot_int_rmul (typeIs_int s 1 t) F.entry_int_rmul (F.args_int_rmul_2 _ _) (int_rmul_tuple 1 t l its.toArray n dd sl)
      ⟨ho, rfl, ⟨_, ho, rfl⟩, call_meets F.slot_tuple_mul ⟨_, ho, rfl⟩ F.entry_tuple_mul (F.args_tuple_mul_2 _ _) (tup_mul1 l its.toArray n dd sl t) ⟨ho, .ref l, H, I, rfl, q⟩⟩)
theorem pi_or {tg iter : Expr} {w1 w2 : TI} (h1 : PI X tg iter w1) (h2 : PI X tg iter w2) : PI X tg iter (fun σ H R => w1 σ H R ∨ w2 σ H R) := by
  refine ⟨fun pins s σ H R I q => ?_⟩
  rcases q with q | q
  · exact h1.run pins s σ H R I q
  · exact h2.run pins s σ H R I q
end
end Toy

namespace Toy
open PySem PySem.Spec PyProof.Rows L2
/-! least of a list -/
def minL : List Int → Int
  | [] => 0
  | x :: xs => xs.foldl (fun a y => if y < a then y else a) x
theorem fold_le (xs : List Int) : ∀ x : Int, xs.foldl (fun a y => if y < a then y else a) x ≤ x ∧ (∀ y ∈ xs, xs.foldl (fun a y => if y < a then y else a) x ≤ y) ∧ (xs.foldl (fun a y => if y < a then y else a) x = x ∨ xs.foldl (fun a y => if y < a then y else a) x ∈ xs) := by
  induction xs with
  | nil => intro x; exact ⟨Int.le_refl _, by simp, .inl rfl⟩
  | cons z t ih =>
    intro x
    rw [List.foldl_cons]
    obtain ⟨h1, h2, h3⟩ := ih (if z < x then z else x)
    have hz : (if z < x then z else x) ≤ z ∧ (if z < x then z else x) ≤ x := by split <;> omega
    refine ⟨by omega, fun y hy => ?_, ?_⟩
    · rcases List.mem_cons.mp hy with e | hy
      · subst e; omega
      · exact h2 y hy
    · rcases h3 with e | e
      · rw [e]
        split
        · exact .inr List.mem_cons_self
        · exact .inl rfl
      · exact .inr (List.mem_cons_of_mem _ e)
theorem minL_le {l : List Int} {y : Int} (h : y ∈ l) : minL l ≤ y := by
  cases l with
  | nil => cases h
  | cons x xs =>
    obtain ⟨h1, h2, h3⟩ := fold_le xs x
    rcases List.mem_cons.mp h with e | h
    · subst e; exact h1
    · exact h2 y h
theorem minL_mem {l : List Int} (h : l ≠ []) : minL l ∈ l := by
  cases l with
  | nil => exact absurd rfl h
  | cons x xs =>
    obtain ⟨h1, h2, h3⟩ := fold_le xs x
    rcases h3 with e | e
    · show xs.foldl _ x ∈ x :: xs
      rw [e]; exact List.mem_cons_self
    · exact List.mem_cons_of_mem _ e
theorem minL_eq {l : List Int} {m : Int} (h : m ∈ l) (h2 : ∀ y ∈ l, m ≤ y) : minL l = m := by
  have a := minL_le h
  have b := h2 _ (minL_mem (fun e => by rw [e] at h; cases h))
  omega
def chF (ws : List (List Int)) (row : List (Option Int)) (ah : List Int) (s p : Nat) : Option (Int × Int) := match row.getD p none with
  | some c => some (mat ws s p + c + ah.getD p 0, (p : Int))
  | none => none
theorem chF_none {ws : List (List Int)} {row : List (Option Int)} {ah : List Int} {s p : Nat} (h : row.getD p none = none) : chF ws row ah s p = none := by unfold chF; rw [h]
theorem chF_some {ws : List (List Int)} {row : List (Option Int)} {ah : List Int} {s p : Nat} {c : Int} (h : row.getD p none = some c) : chF ws row ah s p = some (mat ws s p + c + ah.getD p 0, (p : Int)) := by unfold chF; rw [h]
/-- where one can go, and what it costs with what is ahead -/
def chs (n : Nat) (ws : List (List Int)) (row : List (Option Int)) (ah : List Int) (s : Nat) : List (Int × Int) :=
  (List.range n).filterMap (chF ws row ah s)
def ceil (n : Nat) (ws : List (List Int)) (row : List (Option Int)) (ah : List Int) : List Int := (List.range n).map fun s => minL ((chs n ws row ah s).map (·.1))
def val (n : Nat) (ws : List (List Int)) : List (List (Option Int)) → List Int
  | [] => List.replicate n 0
  | r :: t => ceil n ws r (val n ws t)
theorem ceil_len {n : Nat} {ws : List (List Int)} {row : List (Option Int)} {ah : List Int} : (ceil n ws row ah).length = n := by unfold ceil; rw [List.length_map, List.length_range]
theorem val_len {n : Nat} {ws : List (List Int)} : ∀ t, (val n ws t).length = n
  | [] => List.length_replicate
  | _ :: _ => ceil_len
theorem chs_mem {n : Nat} {ws : List (List Int)} {row : List (Option Int)} {ah : List Int} {s : Nat} {q : Int × Int} : q ∈ chs n ws row ah s ↔ ∃ p c, p < n ∧ row.getD p none = some c ∧ q = (mat ws s p + c + ah.getD p 0, (p : Int)) := by
  unfold chs
  rw [List.mem_filterMap]
  constructor
  · rintro ⟨p, hp, e⟩
    cases hc : row.getD p none with
    | none => rw [chF_none hc] at e; cases e
    | some c => rw [chF_some hc] at e; exact ⟨p, c, List.mem_range.mp hp, hc, (Option.some.inj e).symm⟩
  · rintro ⟨p, c, hp, hc, e⟩
    exact ⟨p, List.mem_range.mpr hp, by rw [chF_some hc, e]⟩
theorem chs_ne {n : Int} {top : Int} {ws : List (List Int)} {row : List (Option Int)} {ah : List Int} {s : Nat} (h : Prices n top row) : chs n.toNat ws row ah s ≠ [] := by
  obtain ⟨x, hx⟩ := h.some
  obtain ⟨p, hp⟩ := List.mem_iff_getElem?.mp hx
  have hl := (List.getElem?_eq_some_iff.mp hp).1
  have := h.len
  refine List.ne_nil_of_mem (chs_mem.mpr ⟨p, x, by omega, ?_, rfl⟩)
  rw [List.getD_eq_getElem?_getD, hp]; rfl
theorem chs_none {n : Nat} {ws : List (List Int)} {row : List (Option Int)} {ah : List Int} {s : Nat} (h : row.getD n none = none) : chs (n + 1) ws row ah s = chs n ws row ah s := by
  unfold chs
  rw [List.range_succ, List.filterMap_append, List.filterMap_cons, chF_none h, List.filterMap_nil, List.append_nil]
theorem chs_some {n : Nat} {ws : List (List Int)} {row : List (Option Int)} {ah : List Int} {s : Nat} {c : Int} (h : row.getD n none = some c) : chs (n + 1) ws row ah s = chs n ws row ah s ++ [(mat ws s n + c + ah.getD n 0, (n : Int))] := by
  unfold chs
  rw [List.range_succ, List.filterMap_append, List.filterMap_cons, chF_some h, List.filterMap_nil]
theorem chs_len (n : Nat) (ws : List (List Int)) (row : List (Option Int)) (ah : List Int) (s : Nat) : (chs n ws row ah s).length ≤ n := by
  unfold chs
  exact Nat.le_trans (List.length_filterMap_le _ _) (Nat.le_of_eq List.length_range)
theorem getDat {α : Type} {xs : List α} {i : Nat} (d : α) (h : i < xs.length) : xs[i]? = some (xs.getD i d) := by
  rw [List.getD_eq_getElem?_getD, List.getElem?_eq_getElem h]; rfl
/-- a pair of two ints -/
def PrT (H : Hp) (v : V) (p : Int × Int) : Prop := IntT H v [p.1, p.2]
theorem PrT.firm : Firm PrT := fun H H' v p k h => IntT.firm H H' v _ k h
def pd (p : Int × Int) : PyData := .tuple [.int p.1, .int p.2]
theorem dp_pairs {K : PySem.W.Frag} {H : Hp} : ∀ {vs : List V} {ps : List (Int × Int)}, Paired (PrT H) vs ps → DpAll K H vs (ps.map pd)
  | _, _, .nil => .nil
  | _, _, .cons r t => by
    obtain ⟨a, rfl, ha⟩ := r
    exact .cons (.tup (SqT.of ha) (.cons (.int _) (.cons (.int _) .nil))) (dp_pairs t)
theorem alike_pairs (ps : List (Int × Int)) : PySem.W.AlikeAll (ps.map pd) := by
  refine ⟨fun x hx y hy => ?_, fun x hx => ?_⟩
  · obtain ⟨p, _, rfl⟩ := List.mem_map.mp hx
    obtain ⟨q, _, rfl⟩ := List.mem_map.mp hy
    simp [pd, PySem.W.alike, PySem.W.alikeAll]
  · obtain ⟨p, _, rfl⟩ := List.mem_map.mp hx
    intro h; cases h
theorem depth_pairs : ∀ ps : List (Int × Int), PyData.depthAll (ps.map pd) ≤ 60
  | [] => by simp [PyData.depthAll]
  | p :: ps => by
    have := depth_pairs ps
    simp only [List.map_cons, PyData.depthAll, pd, PyData.depth]
    omega
/-- less, for pairs -/
def ltP (p q : Int × Int) : Prop := p.1 < q.1 ∨ (p.1 = q.1 ∧ p.2 < q.2)
theorem minD_pairs (ps : List (Int × Int)) : ∀ p, ∃ q, PySem.W.minD (pd p) (ps.map pd) = pd q ∧ q ∈ p :: ps ∧ ∀ r ∈ p :: ps, q.1 ≤ r.1 := by
  induction ps with
  | nil => intro p; exact ⟨p, rfl, List.mem_cons_self, fun r hr => by rw [List.mem_singleton.mp hr]; exact Int.le_refl _⟩
  | cons z t ih =>
    intro p
    have e : PySem.W.minD (pd p) ((z :: t).map pd) = PySem.W.minD (if PySem.W.dataLt (pd z) (pd p) then pd z else pd p) (t.map pd) := rfl
    have el : PySem.W.dataLt (pd z) (pd p) = decide (z.1 < p.1 ∨ (z.1 = p.1 ∧ z.2 < p.2)) := PySem.W.dataLt_ii _ _ _ _
    rw [e, el]
    by_cases h : z.1 < p.1 ∨ (z.1 = p.1 ∧ z.2 < p.2)
    · rw [decide_eq_true h, if_pos rfl]
      obtain ⟨q, h1, h2, h3⟩ := ih z
      refine ⟨q, h1, List.mem_cons_of_mem _ h2, fun r hr => ?_⟩
      rcases List.mem_cons.mp hr with e | hr
      · subst e
        have := h3 z List.mem_cons_self
        omega
      · exact h3 r hr
    · rw [decide_eq_false h, if_neg (by simp)]
      obtain ⟨q, h1, h2, h3⟩ := ih p
      refine ⟨q, h1, ?_, fun r hr => ?_⟩
      · rcases List.mem_cons.mp h2 with e | h2
        · rw [e]; exact List.mem_cons_self
        · exact List.mem_cons_of_mem _ (List.mem_cons_of_mem _ h2)
      · rcases List.mem_cons.mp hr with e | hr
        · subst e; exact h3 _ List.mem_cons_self
        · rcases List.mem_cons.mp hr with e | hr
          · subst e
            have := h3 p List.mem_cons_self
            omega
          · exact h3 r (List.mem_cons_of_mem _ hr)
/-- the reading of min of such a list -/
theorem min_pairs {K : PySem.W.Frag} {H : Hp} {l : Addr} {us : List V} {ps : List (Int × Int)} {Q : VK} (hl : H l = some (.lst us)) (hp : Paired (PrT H) us ps) (hne : ps ≠ [])
    (h : ∀ v q, PrT H v q → q ∈ ps → q.1 = minL (ps.map (·.1)) → Q v H) : rMinD K [.ref l] H Q := by
  cases ps with
  | nil => exact absurd rfl hne
  | cons p ps =>
    refine ⟨l, us, pd p, ps.map pd, rfl, SqL.of hl, dp_pairs hp, alike_pairs (p :: ps), depth_pairs (p :: ps), fun i v hv hd => ?_⟩
    obtain ⟨q, e, hq, hmin⟩ := minD_pairs ps p
    rw [e] at hd
    obtain ⟨q', hq', hv'⟩ := prd_at1 hp hv
    have : ((p :: ps).map pd)[i]? = some (pd q) := hd
    rw [List.getElem?_map, hq'] at this
    have eq1 : pd q' = pd q := Option.some.inj this
    have eq2 : q' = q := by
      unfold pd at eq1
      injection eq1 with a
      injection a with b c
      injection b with b
      injection c with c _
      injection c with c
      exact Prod.ext b c
    subst eq2
    refine h v q' hv' hq (minL_eq (List.mem_map.mpr ⟨q', hq, rfl⟩) ?_).symm
    intro y hy
    obtain ⟨r, hr, rfl⟩ := List.mem_map.mp hy
    exact hmin r hr
/-! promises -/
def spPricesM (C : Addr) : Sp := fun vs H Q _ => ∃ (p : Addr) (S : Sys) (z : Str) (row : List (Option Int)), vs = [.ref p, .str z] ∧ SysOk S ∧ SysAt C H p S ∧ (z, row) ∈ S.rs ∧ ∀ v, OptT H v row → Q v H
def RowAt (H : Hp) (v : V) (zs : List Str) : Prop := ∃ a, v = .ref a ∧ (H a = some (.tup (zs.map V.str)) ∨ H a = some (.lst (zs.map V.str)))
def spCheckRow (C : Addr) : Sp := fun vs H Q _ => ∃ (p : Addr) (S : Sys) (v : V) (zs : List Str), vs = [.ref p, v] ∧ SysOk S ∧ SysAt C H p S ∧ RowAt H v zs ∧ (∀ z ∈ zs, z ∈ S.rs.map (·.1)) ∧ ∀ H', Same H H' → Q .non H'
def spChoices (C : Addr) : Sp := fun vs H Q _ => ∃ (p : Addr) (S : Sys) (z : Str) (row : List (Option Int)) (s : Nat) (v : V) (ah : List Int), vs = [.ref p, .int s, .str z, v] ∧ SysOk S ∧ SysAt C H p S ∧ (z, row) ∈ S.rs ∧ (s : Int) < S.n ∧ IntT H v ah ∧ (ah.length : Int) = S.n ∧
  ∀ l us H', Same H H' → H' l = some (.lst us) → Paired (PrT H') us (chs S.n.toNat S.ws row ah s) → Q (.ref l) H'
def spCeilings (C : Addr) : Sp := fun vs H Q _ => ∃ (p : Addr) (S : Sys) (z : Str) (row : List (Option Int)) (v : V) (ah : List Int), vs = [.ref p, .str z, v] ∧ SysOk S ∧ SysAt C H p S ∧ (z, row) ∈ S.rs ∧ IntT H v ah ∧ (ah.length : Int) = S.n ∧
  ∀ v' H', Same H H' → IntT H' v' (ceil S.n.toNat S.ws row ah) → Q v' H'
end Toy

namespace Toy
open PySem PySem.Spec PyProof.Rows L2
/-- a service of some rows: where one went, what it cost, where one stands -/
inductive Run (n : Nat) (ws : List (List Int)) : List (List (Option Int)) → List Nat → Int → Nat → Prop
  | nil : Run n ws [] [] 0 0
  | snoc {rs : List (List (Option Int))} {ps : List Nat} {c : Int} {a : Nat} {r : List (Option Int)} {p : Nat} {k : Int} : Run n ws rs ps c a → p < n → r.getD p none = some k → Run n ws (rs ++ [r]) (ps ++ [p]) (c + mat ws a p + k) p
theorem Run.lt {n : Nat} (hn : 0 < n) {ws : List (List Int)} {rs : List (List (Option Int))} {ps : List Nat} {c : Int} {a : Nat} (h : Run n ws rs ps c a) : a < n := by
  cases h with
  | nil => exact hn
  | snoc _ hp _ => exact hp
theorem Run.len {n : Nat} {ws : List (List Int)} {rs : List (List (Option Int))} {ps : List Nat} {c : Int} {a : Nat} (h : Run n ws rs ps c a) : ps.length = rs.length := by
  induction h with
  | nil => rfl
  | snoc _ _ _ ih => simp [ih]
theorem Run.fn {n : Nat} {ws : List (List Int)} {rs : List (List (Option Int))} {ps : List Nat} {c : Int} {a : Nat} (h : Run n ws rs ps c a) : ∀ {c' : Int} {a' : Nat}, Run n ws rs ps c' a' → c = c' ∧ a = a' := by
  induction h with
  | nil =>
    intro c' a' h'
    generalize e1 : ([] : List (List (Option Int))) = rs at h'
    generalize e2 : ([] : List Nat) = ps at h'
    cases h' with
    | nil => exact ⟨rfl, rfl⟩
    | snoc _ _ _ => simp at e1
  | @snoc rs ps c a r p k _ hp hk ih =>
    intro c' a' h'
    generalize e1 : rs ++ [r] = rs' at h'
    generalize e2 : ps ++ [p] = ps' at h'
    cases h' with
    | nil => simp at e1
    | @snoc rs₂ ps₂ c₂ a₂ r₂ p₂ k₂ h2 hp2 hk2 =>
      obtain ⟨q1, q2⟩ := List.append_inj' e1 rfl
      obtain ⟨q3, q4⟩ := List.append_inj' e2 rfl
      subst q1; subst q3
      obtain rfl : r = r₂ := by simpa using q2
      obtain rfl : p = a' := by simpa using q4
      obtain ⟨rfl, rfl⟩ := ih h2
      rw [hk] at hk2
      obtain rfl := Option.some.inj hk2
      exact ⟨rfl, rfl⟩
theorem Run.congr {n : Nat} (hn : 0 < n) {ws ws' : List (List Int)} (e : ∀ i j, i < n → j < n → mat ws i j = mat ws' i j) {rs : List (List (Option Int))} {ps : List Nat} {c : Int} {a : Nat} (h : Run n ws rs ps c a) : Run n ws' rs ps c a := by
  induction h with
  | nil => exact .nil
  | snoc h0 hp hk ih =>
    rw [e _ _ (h0.lt hn) hp]
    exact .snoc ih hp hk
/-- the last step -/
theorem Run.inv {n : Nat} {ws : List (List Int)} {rs : List (List (Option Int))} {r : List (Option Int)} {ps' : List Nat} {c : Int} {a : Nat} (h : Run n ws (rs ++ [r]) ps' c a) : ∃ ps c0 a0 k, ps' = ps ++ [a] ∧ Run n ws rs ps c0 a0 ∧ a < n ∧ r.getD a none = some k ∧ c = c0 + mat ws a0 a + k := by
  generalize e1 : rs ++ [r] = rs' at h
  cases h with
  | nil => simp at e1
  | @snoc rs₂ ps₂ c₂ a₂ r₂ p₂ k₂ h2 hp2 hk2 =>
    obtain ⟨q1, q2⟩ := List.append_inj' e1 rfl
    subst q1
    obtain rfl : r = r₂ := by simpa using q2
    exact ⟨ps₂, c₂, a₂, k₂, rfl, h2, hp2, hk2, rfl⟩
theorem Run.take {n : Nat} {ws : List (List Int)} {rs : List (List (Option Int))} {ps : List Nat} {c : Int} {a : Nat} (h : Run n ws rs ps c a) : ∀ k, ∃ c' a', Run n ws (rs.take k) (ps.take k) c' a' := by
  induction h with
  | nil => intro k; exact ⟨0, 0, by simpa using Run.nil⟩
  | @snoc rs ps c a r p k' h0 hp hk ih =>
    intro k
    have hl := h0.len
    by_cases hk2 : k ≤ rs.length
    · rw [List.take_append_of_le_length hk2, List.take_append_of_le_length (by omega)]
      exact ih k
    · rw [List.take_of_length_le (by simp; omega), List.take_of_length_le (by simp; omega)]
      exact ⟨_, _, .snoc h0 hp hk⟩
theorem ceil_at {n : Nat} {ws : List (List Int)} {row : List (Option Int)} {ah : List Int} {s : Nat} (h : s < n) : (ceil n ws row ah).getD s 0 = minL ((chs n ws row ah s).map (·.1)) := by
  unfold ceil
  rw [List.getD_eq_getElem?_getD, List.getElem?_map, List.getElem?_range h]
  rfl
theorem ceil_le {n : Nat} {ws : List (List Int)} {row : List (Option Int)} {ah : List Int} {s p : Nat} {k : Int} (h : s < n) (hp : p < n) (hk : row.getD p none = some k) : (ceil n ws row ah).getD s 0 ≤ mat ws s p + k + ah.getD p 0 := by
  rw [ceil_at h]
  exact minL_le (List.mem_map.mpr ⟨_, chs_mem.mpr ⟨p, k, hp, hk, rfl⟩, rfl⟩)
/-- no service is cheaper -/
theorem Run.low {n : Nat} (hn : 0 < n) {ws : List (List Int)} {rs : List (List (Option Int))} {ps : List Nat} {c : Int} {a : Nat} (h : Run n ws rs ps c a) : ∀ rest, (val n ws (rs ++ rest)).getD 0 0 ≤ c + (val n ws rest).getD a 0 := by
  induction h with
  | nil => intro rest; simp
  | @snoc rs ps c a r p k h0 hp hk ih =>
    intro rest
    have h1 := ih (r :: rest)
    rw [List.append_assoc]
    have h2 := ceil_le (ws := ws) (ah := val n ws rest) (h0.lt hn) hp hk
    have h3 : (val n ws (r :: rest)).getD a 0 = (ceil n ws r (val n ws rest)).getD a 0 := rfl
    rw [h3] at h1
    have h4 : rs ++ r :: rest = rs ++ ([r] ++ rest) := rfl
    rw [h4] at h1
    omega
theorem val_nil {n : Nat} {ws : List (List Int)} {a : Nat} : (val n ws []).getD a 0 = 0 := by
  unfold val
  rw [List.getD_eq_getElem?_getD, List.getElem?_replicate]
  split <;> rfl
theorem Run.ge {n : Nat} (hn : 0 < n) {ws : List (List Int)} {rs : List (List (Option Int))} {ps : List Nat} {c : Int} {a : Nat} (h : Run n ws rs ps c a) : (val n ws rs).getD 0 0 ≤ c := by
  have := h.low hn []
  rw [List.append_nil, val_nil] at this
  omega
def vals (n : Nat) (ws : List (List Int)) : List (List (Option Int)) → List (List Int)
  | [] => [val n ws []]
  | r :: t => val n ws (r :: t) :: vals n ws t
theorem vals_len {n : Nat} {ws : List (List Int)} : ∀ rs, (vals n ws rs).length = rs.length + 1
  | [] => rfl
  | _ :: t => by simp [vals, vals_len t]
theorem vals_at {n : Nat} {ws : List (List Int)} : ∀ (rs : List (List (Option Int))) (i : Nat), i ≤ rs.length → (vals n ws rs)[i]? = some (val n ws (rs.drop i))
  | [], 0, _ => rfl
  | r :: t, 0, _ => rfl
  | r :: t, i + 1, h => by
    have := vals_at (n := n) (ws := ws) t i (by simpa using h)
    simpa [vals] using this
  | [], i + 1, h => by simp at h
/-- the rows of the names -/
def RowsOf (S : Sys) (zs : List Str) (rs : List (List (Option Int))) : Prop := Paired (fun z r => (z, r) ∈ S.rs) zs rs
theorem prd_rev {α β : Type} {F : α → β → Prop} {xs : List α} {ys : List β} (h : Paired F xs ys) : Paired F xs.reverse ys.reverse := by
  induction h with
  | nil => exact .nil
  | cons r _ ih =>
    rw [List.reverse_cons, List.reverse_cons]
    exact Paired.snoc ih r
def spFloor (C : Addr) : Sp := fun vs H Q _ => ∃ (p : Addr) (S : Sys) (v : V) (zs : List Str) (rs : List (List (Option Int))), vs = [.ref p, v] ∧ SysOk S ∧ SysAt C H p S ∧ RowAt H v zs ∧ RowsOf S zs rs ∧ zs.length ≤ 900 ∧
  ∀ l ts H', Same H H' → H l = none → H' l = some (.lst ts) → Paired (IntT H') ts (vals S.n.toNat S.ws rs) → Q (.ref l) H'
def spWisest (C : Addr) : Sp := fun vs H Q _ => ∃ (p : Addr) (S : Sys) (v : V) (zs : List Str) (rs : List (List (Option Int))), vs = [.ref p, v] ∧ SysOk S ∧ SysAt C H p S ∧ RowAt H v zs ∧ RowsOf S zs rs ∧ zs.length ≤ 900 ∧
  ∀ (t t2 : Addr) (ps : List Nat) (c : Int) (a : Nat) (H' : Hp), Same H H' → H' t = some (.tup [.int c, .ref t2]) → H' t2 = some (.tup ((ps.map fun x => ((x : Nat) : Int)).map V.int)) → Run S.n.toNat S.ws rs ps c a → c = (val S.n.toNat S.ws rs).getD 0 0 → Q (.ref t) H'
theorem walk_revT {K : PySem.W.Frag} {a : Addr} {xs : List V} : Walk (RT.ItvT K a xs.length) xs.length (fun H => SqT K H a xs) (fun i H x H' => H' = H ∧ xs[xs.length - 1 - i]? = some x) :=
  ⟨fun i _ hi q => ⟨hi, xs, xs[xs.length - 1 - i]'(by omega), q, by simp [show xs.length - 1 - i < xs.length by omega]⟩, fun _ _ => Nat.le_refl _, fun _ _ _ _ _ q y => ⟨y.1, y.2 xs q⟩⟩
/-- a list of lists of ints that is read -/
structure LM (H : Hp) (L : Addr) (n : Nat) (M : Nat → Nat → Int) : Prop where
  ex : ∃ as : List Addr, H L = some (.lst (as.map V.ref)) ∧ as.length = n ∧ ∀ (i : Nat) a, as[i]? = some a → H a = some (.lst (rowV n (M i)))
theorem LM.same {H H' : Hp} {L : Addr} {n : Nat} {M : Nat → Nat → Int} (m : LM H L n M) (k : Same H H') : LM H' L n M := by
  obtain ⟨as, h1, h2, h3⟩ := m.ex
  exact ⟨as, k _ _ h1, h2, fun i a e => k _ _ (h3 i a e)⟩
def spLawWays : Sp := fun vs H Q _ => ∃ (v : V) (rows : List (List Int)) (n top : Int), vs = [v] ∧ TupT IntT H v rows ∧ Square n top rows ∧ 1 ≤ n ∧ n ≤ 100 ∧
  ∀ L M H', Same H H' → LM H' L n.toNat M → Least n.toNat (mat rows) M → Q (.ref L) H'
def prodM (n : Nat) (M R : Nat → Nat → Int) : Nat → Nat → Int := fun i j => minL ((List.range n).map fun c => M i c + R c j)
theorem prodM_le {n : Nat} {M R : Nat → Nat → Int} {i j c : Nat} (h : c < n) : prodM n M R i j ≤ M i c + R c j := minL_le (List.mem_map.mpr ⟨c, List.mem_range.mpr h, rfl⟩)
theorem prodM_has {n : Nat} {M R : Nat → Nat → Int} {i j : Nat} (h : 0 < n) : ∃ c, c < n ∧ prodM n M R i j = M i c + R c j := by
  have hne : (List.range n).map (fun c => M i c + R c j) ≠ [] := by
    intro e
    have := congrArg List.length e
    rw [List.length_map, List.length_range] at this
    simp at this
    omega
  obtain ⟨c, hc, e⟩ := List.mem_map.mp (minL_mem hne)
  exact ⟨c, List.mem_range.mp hc, e.symm⟩
/-- the requests of a dict, in rows -/
structure ReqAt (H : Hp) (d : Addr) (n : Int) (rs0 : List (Str × List (Option Int))) : Prop where
  ex : ∃ kvs, H d = some (.dK kvs) ∧ DctOf OptT H kvs rs0
  nd : (rs0.map (·.1)).Nodup
  pr : ∀ q ∈ rs0, Prices n 9 q.2
theorem ReqAt.same {H H' : Hp} {d : Addr} {n : Int} {rs0 : List (Str × List (Option Int))} (r : ReqAt H d n rs0) (k : Same H H') : ReqAt H' d n rs0 := by
  obtain ⟨kvs, h1, h2⟩ := r.ex
  exact ⟨⟨kvs, k _ _ h1, h2.firm OptT.firm (same_tups k)⟩, r.nd, r.pr⟩
theorem ReqAt.get {H : Hp} {d : Addr} {n : Int} {rs0 : List (Str × List (Option Int))} (r : ReqAt H d n rs0) {z : Str} {row : List (Option Int)} (h : (z, row) ∈ rs0) : ∃ a, DGet H d (.str z) (some (.ref a)) ∧ H a = some (.tup (row.map vO)) := by
  obtain ⟨kvs, h1, h2⟩ := r.ex
  obtain ⟨v, hv, a, rfl, ha⟩ := dct_some h2 r.nd h
  exact ⟨a, by rw [← hv]; exact DGet.k (k := Sum.inr z) h1, ha⟩
/-- all services one request longer -/
def extF (M : Nat → Nat → Int) (r : List (Option Int)) (q : Int × Int) (p : Nat) : Option (Int × Int) := match r.getD p none with
  | some k => some (q.1 + M q.2.toNat p + k, (p : Int))
  | none => none
theorem extF_none {M : Nat → Nat → Int} {r : List (Option Int)} {q : Int × Int} {p : Nat} (h : r.getD p none = none) : extF M r q p = none := by unfold extF; rw [h]
theorem extF_some {M : Nat → Nat → Int} {r : List (Option Int)} {q : Int × Int} {p : Nat} {k : Int} (h : r.getD p none = some k) : extF M r q p = some (q.1 + M q.2.toNat p + k, (p : Int)) := by unfold extF; rw [h]
def ext1 (n : Nat) (M : Nat → Nat → Int) (r : List (Option Int)) (q : Int × Int) : List (Int × Int) := (List.range n).filterMap (extF M r q)
def extA (n : Nat) (M : Nat → Nat → Int) (r : List (Option Int)) (fs : List (Int × Int)) : List (Int × Int) := fs.flatMap (ext1 n M r)
theorem ext1_len (n : Nat) (M : Nat → Nat → Int) (r : List (Option Int)) (q : Int × Int) : (ext1 n M r q).length ≤ n := by
  unfold ext1
  exact Nat.le_trans (List.length_filterMap_le _ _) (Nat.le_of_eq List.length_range)
theorem extA_len (n : Nat) (M : Nat → Nat → Int) (r : List (Option Int)) : ∀ fs : List (Int × Int), (extA n M r fs).length ≤ fs.length * n
  | [] => by simp [extA]
  | q :: fs => by
    have h1 := extA_len n M r fs
    have h2 := ext1_len n M r q
    unfold extA at h1 ⊢
    rw [List.flatMap_cons, List.length_append, List.length_cons, Nat.add_mul, Nat.one_mul]
    omega
theorem extA_app (n : Nat) (M : Nat → Nat → Int) (r : List (Option Int)) (fs : List (Int × Int)) (q : Int × Int) : extA n M r (fs ++ [q]) = extA n M r fs ++ ext1 n M r q := by
  unfold extA
  rw [List.flatMap_append, List.flatMap_cons, List.flatMap_nil, List.append_nil]
theorem extA_mem {n : Nat} {M : Nat → Nat → Int} {r : List (Option Int)} {fs : List (Int × Int)} {y : Int × Int} : y ∈ extA n M r fs ↔ ∃ q ∈ fs, ∃ p k, p < n ∧ r.getD p none = some k ∧ y = (q.1 + M q.2.toNat p + k, (p : Int)) := by
  unfold extA
  rw [List.mem_flatMap]
  constructor
  · rintro ⟨q, hq, hy⟩
    unfold ext1 at hy
    obtain ⟨p, hp, e⟩ := List.mem_filterMap.mp hy
    cases hc : r.getD p none with
    | none => rw [extF_none hc] at e; cases e
    | some k => rw [extF_some hc] at e; exact ⟨q, hq, p, k, List.mem_range.mp hp, hc, (Option.some.inj e).symm⟩
  · rintro ⟨q, hq, p, k, hp, hc, e⟩
    exact ⟨q, hq, List.mem_filterMap.mpr ⟨p, List.mem_range.mpr hp, by rw [extF_some hc, e]⟩⟩
/-- found: all services so far -/
structure Found (n : Nat) (ws : List (List Int)) (rs : List (List (Option Int))) (fs : List (Int × Int)) : Prop where
  snd : ∀ q ∈ fs, ∃ ps a, q.2 = ((a : Nat) : Int) ∧ Run n ws rs ps q.1 a
  cpl : ∀ ps c a, Run n ws rs ps c a → (c, ((a : Nat) : Int)) ∈ fs
theorem Found.step {n : Nat} (hn : 0 < n) {ws : List (List Int)} {M : Nat → Nat → Int} (e : ∀ i j, i < n → j < n → M i j = mat ws i j) {rs : List (List (Option Int))} {fs : List (Int × Int)} (f : Found n ws rs fs) (r : List (Option Int)) : Found n ws (rs ++ [r]) (extA n M r fs) := by
  refine ⟨fun y hy => ?_, fun ps c a h => ?_⟩
  · obtain ⟨q, hq, p, k, hp, hk, rfl⟩ := extA_mem.mp hy
    obtain ⟨ps, a, ea, hr⟩ := f.snd q hq
    refine ⟨ps ++ [p], p, rfl, ?_⟩
    rw [ea, Int.toNat_natCast, e _ _ (hr.lt hn) hp]
    exact .snoc hr hp hk
  · obtain ⟨ps0, c0, a0, k, rfl, hr, ha, hk, rfl⟩ := h.inv
    refine extA_mem.mpr ⟨(c0, (a0 : Int)), f.cpl _ _ _ hr, a, k, ha, hk, ?_⟩
    rw [Int.toNat_natCast, e _ _ (hr.lt hn) ha]
theorem extA_ne {n : Int} {M : Nat → Nat → Int} {r : List (Option Int)} {fs : List (Int × Int)} (h : Prices n 9 r) (hf : fs ≠ []) : extA n.toNat M r fs ≠ [] := by
  obtain ⟨x, hx⟩ := h.some
  obtain ⟨p, hp⟩ := List.mem_iff_getElem?.mp hx
  have hl := (List.getElem?_eq_some_iff.mp hp).1
  have hn := h.len
  cases fs with
  | nil => exact absurd rfl hf
  | cons q t =>
    exact List.ne_nil_of_mem (extA_mem.mpr ⟨q, List.mem_cons_self, p, x, by omega, by rw [List.getD_eq_getElem?_getD, hp]; rfl, rfl⟩)
def spLawServices : Sp := fun vs H Q _ => ∃ (L d l : Addr) (M : Nat → Nat → Int) (n : Int) (rs0 : List (Str × List (Option Int))) (zs : List Str) (rs : List (List (Option Int))) (ws : List (List Int)), vs = [.ref L, .ref d, .ref l] ∧ LM H L n.toNat M ∧ 1 ≤ n ∧ n ≤ 6 ∧
  (∀ i j, i < n.toNat → j < n.toNat → M i j = mat ws i j) ∧ ReqAt H d n rs0 ∧ H l = some (.lst (zs.map V.str)) ∧ Paired (fun z r => (z, r) ∈ rs0) zs rs ∧ zs.length ≤ 6 ∧
  ∀ (m : Int) (H' : Hp), Same H H' → (∃ ps a, Run n.toNat ws rs ps m a) → (∀ ps c a, Run n.toNat ws rs ps c a → m ≤ c) → Q (.int m) H'
def spLawPrice : Sp := fun vs H Q _ => ∃ (L d l t : Addr) (M : Nat → Nat → Int) (n : Int) (rs0 : List (Str × List (Option Int))) (zs : List Str) (rs : List (List (Option Int))) (ws : List (List Int)) (ps : List Nat) (c : Int) (a : Nat), vs = [.ref L, .ref d, .ref l, .ref t] ∧ LM H L n.toNat M ∧ 1 ≤ n ∧ n ≤ 6 ∧
  (∀ i j, i < n.toNat → j < n.toNat → M i j = mat ws i j) ∧ ReqAt H d n rs0 ∧ H l = some (.lst (zs.map V.str)) ∧ Paired (fun z r => (z, r) ∈ rs0) zs rs ∧ zs.length ≤ 900 ∧ H t = some (.tup ((ps.map fun x => ((x : Nat) : Int)).map V.int)) ∧ Run n.toNat ws rs ps c a ∧
  ∀ H', Same H H' → Q (.int c) H'
def spLawRow : Sp := fun vs H Q _ => ∃ (d c l : Addr) (zs : List Str) (m : Int), vs = [.ref d, .ref l, .int m] ∧ Dice c H d ∧ H l = some (.lst (zs.map V.str)) ∧ l ≠ d ∧ 1 ≤ zs.length ∧ zs.length ≤ 1000 ∧ 0 ≤ m ∧ m ≤ 900 ∧
  ∀ (R : Addr) (ys : List Str) (H' : Hp), H R = none → H' R = some (.lst (ys.map V.str)) → (ys.length : Int) ≤ m → (∀ y ∈ ys, y ∈ zs) → Keep d H H' → Dice c H' d → Q (.ref R) H'
end Toy

namespace Toy
open PySem PySem.Spec PyProof.Rows L2
section
variable {X : Cx}
/-! flags by their identity -/
def rIsB : R2 := fun x y H Q => ∃ b c, x = .bl b ∧ y = .bl c ∧ Q (.bl (b == c)) H
def rNotB : R2 := fun x y H Q => ∃ b c, x = .bl b ∧ y = .bl c ∧ Q (.bl (b != c)) H
theorem op_isB : OpR X (compareOp .Is) rIsB := by
  intro pins s σ H x y v u Q I rx ry h
  obtain ⟨b, c, rfl, rfl, q⟩ := h
  cases rx
  cases ry
  exact is_bool (fin_bl I q rfl)
theorem op_notB : OpR X (compareOp .IsNot) rNotB := by
  intro pins s σ H x y v u Q I rx ry h
  obtain ⟨b, c, rfl, rfl, q⟩ := h
  cases rx
  cases ry
  exact isnot_bool (fin_bl I q rfl)
/-! the greatest of a tuple of ints -/
theorem dp_ints {K : PySem.W.Frag} {H : Hp} : ∀ ns : List Int, DpAll K H (ns.map V.int) (ns.map PyData.int)
  | [] => .nil
  | n :: r => .cons (.int n) (dp_ints r)
theorem alike_ints (ns : List Int) : PySem.W.AlikeAll (ns.map PyData.int) := by
  constructor
  · intro x hx y hy
    obtain ⟨i, _, rfl⟩ := List.mem_map.mp hx
    obtain ⟨j, _, rfl⟩ := List.mem_map.mp hy
    simp [PySem.W.alike]
  · intro x hx
    obtain ⟨i, _, rfl⟩ := List.mem_map.mp hx
    intro z; cases z
theorem depth_ints : ∀ ns : List Int, PyData.depthAll (ns.map PyData.int) ≤ 1
  | [] => by simp [PyData.depthAll]
  | n :: r => by
    have := depth_ints r
    simp only [List.map_cons, PyData.depthAll, PyData.depth]
    omega
def rMaxT (K : PySem.W.Frag) : List V → Hp → VK → Prop := fun vs H Q => ∃ (a : Addr) (k : Int) (ks : List Int), vs = [V.ref a] ∧ SqT K H a ((k :: ks).map V.int) ∧ Q (.int (ks.foldl max k)) H
theorem cr_maxT (hc : X.calm = true) (hu : X.A.units + 64 < cLine) : CallR X (.builtin "max") (rMaxT X.K) := by
  intro pins s σ H vs us Q I r h
  obtain ⟨a, k, ks, rfl, hs, q⟩ := h
  obtain ⟨u, rfl, ru⟩ := vals1 r
  obtain rfl : u = Value.ref a := ru
  obtain ⟨its, rv, p, _⟩ := I.tuple hs
  obtain ⟨as, hr⟩ := Dp.readsAll I ((k :: ks).map PyData.int) ((k :: ks).map V.int) its (dp_ints _) rv
  have hd := depth_ints (k :: ks)
  refine PySem.W.max_tuple_data (x := PyData.int k) (xs := ks.map PyData.int) (I.ok.hd hc) p (by simpa using hr) (alike_ints (k :: ks)) (by
    have : PyData.depthAll (PyData.int k :: ks.map PyData.int) ≤ 1 := hd
    omega) fun i v h' tk bs hv hrd hk => ?_
  rw [PySem.W.maxD_ints] at hrd
  rw [List.getElem?_toArray] at hv
  obtain ⟨x, hx, rx⟩ := prd_at2 rv hv
  obtain ⟨j, _, rfl⟩ := map_at hx
  obtain ⟨t, rfl⟩ := rx
  have e := (hrd.unique _ _ (Reads.int j t)).1
  cases e
  exact ⟨.int _, H, I.kept (t' := tk) hk, ⟨t, rfl⟩, q⟩
end
theorem walk_zipT {K : PySem.W.Frag} {a b : Addr} {xs ys : List V} {n : Nat} (hn : n = min xs.length ys.length) : Walk (RZ.ItzT K a b) n (fun H => SqT K H a xs ∧ SqT K H b ys) (YPair (fun i => xs[i]?) (fun i => ys[i]?)) := by
  subst hn
  refine ⟨fun i _ hi q => ?_, fun _ q => ⟨xs, ys, q.1, q.2, by omega⟩, fun i H v H' _ q y => ?_⟩
  · have h1 : i < xs.length := by omega
    have h2 : i < ys.length := by omega
    exact ⟨xs, ys, xs[i], ys[i], q.1, q.2, by simp [h1], by simp [h2]⟩
  · obtain ⟨T, x, z, h1, h2, h3, h4, h5⟩ := y
    exact ⟨T, x, z, h1, h2, h3, h4 xs q.1, h5 ys q.2⟩
theorem max_zeros : ∀ n : Nat, (List.replicate n (0 : Int)).foldl max 0 = 0
  | 0 => rfl
  | n + 1 => by rw [List.replicate_succ, List.foldl_cons]; exact max_zeros n
end Toy

namespace Toy
open PySem PySem.Spec PyProof.Rows L2
/-! zip of three tuples -/
def Itz3 (K : PySem.W.Frag) (a b e : Addr) : It :=
  ⟨fun i H => ∃ (xs ys zs : List V) (x y u : V), SqT K H a xs ∧ SqT K H b ys ∧ SqT K H e zs ∧ xs[i]? = some x ∧ ys[i]? = some y ∧ zs[i]? = some u,
    fun i H v H' => ∃ T x y u, v = .ref T ∧ H T = none ∧ H' = upd H T (.tup [x, y, u]) ∧ (∀ xs, SqT K H a xs → xs[i]? = some x) ∧ (∀ ys, SqT K H b ys → ys[i]? = some y) ∧ ∀ zs, SqT K H e zs → zs[i]? = some u,
    fun i H => ∃ xs ys zs : List V, SqT K H a xs ∧ SqT K H b ys ∧ SqT K H e zs ∧ xs.length = i ∧ ys.length = i ∧ zs.length = i⟩
theorem turn_zip3 {P : Program} {w : World} {K : PySem.W.Frag} {elts : List Expr} {kk : Nat} {tpos : Pos} {a b e z TI TO i1 i2 i3 : Addr} (D : ZipSep3 z TI TO i1 i2 i3 [i1, a] [i2, b] [i3, e]) (na : a ≠ i1) (nb : b ≠ i2) (ne : e ≠ i3) :
    Turn P w K (.Tuple elts kk tpos) (Itz3 K a b e) [z, TI, TO, i1, i2, i3] z (fun i h => IsZip h z TI TO .none ∧ IsTupOf3 h TI (.ref i1) (.ref i2) (.ref i3) ∧ (∃ x y u, IsTupOf3 h TO x y u) ∧ h.IsTupleIter i1 a i ∧ h.IsTupleIter i2 b i ∧ h.IsTupleIter i3 e i) where
  mem := by simp
  obj := fun i h st c hc => by
    obtain ⟨hz, hTI, ⟨x, y, u, hTO⟩, ⟨o1, e1, _, d1⟩, ⟨o2, e2, _, d2⟩, ⟨o3, e3, _, d3⟩⟩ := st
    have e' : c = z ∨ c = TI ∨ c = TO ∨ c = i1 ∨ c = i2 ∨ c = i3 := by simpa using hc
    rcases e' with q | q | q | q | q | q
    · rw [q]; exact ⟨_, hz, fun v q => nomatch q⟩
    · rw [q]; exact ⟨_, hTI, fun v q => nomatch q⟩
    · rw [q]; exact ⟨_, hTO, fun v q => nomatch q⟩
    · rw [q]; exact ⟨o1, e1, fun v q => by rw [d1] at q; cases q⟩
    · rw [q]; exact ⟨o2, e2, fun v q => by rw [d2] at q; cases q⟩
    · rw [q]; exact ⟨o3, e3, fun v q => by rw [d3] at q; cases q⟩
  keep := fun i h h' st k => by
    obtain ⟨hz, hTI, ⟨x, y, u, hTO⟩, h1, h2, h3⟩ := st
    exact ⟨k z (by simp) _ hz, k TI (by simp) _ hTI, ⟨x, y, u, k TO (by simp) _ hTO⟩, h1.at fun o q => k i1 (by simp) o q, h2.at fun o q => k i2 (by simp) o q, h3.at fun o q => k i3 (by simp) o q⟩
  item := by
    intro X hP hw hK hc i pins s σ H E I hf st hg
    subst hP hw hK
    obtain ⟨hz, hTI, ⟨x0, y0, u0, hTO⟩, h1, h2, h3⟩ := st
    obtain ⟨xs, ys, zs, x, y, u, hqx, hqy, hqz, hx, hy, hu⟩ := hg
    obtain ⟨its, rv, p, _⟩ := I.tuple hqx
    obtain ⟨its2, rv2, p2, _⟩ := I.tuple hqy
    obtain ⟨its3, rv3, p3, _⟩ := I.tuple hqz
    obtain ⟨v1, hv1, r1⟩ := rv.get hx
    obtain ⟨v2, hv2, r2⟩ := rv2.get hy
    obtain ⟨v3, hv3, r3⟩ := rv3.get hu
    have hh : X.A.in1.handled = none := I.ok.hd hc
    have hzl : z < s.heap.objs.size := Heap.lt_size hz
    refine wpAny_pyNext_zipD3_item D (Draws.tuple (prog := X.prog) (w := X.w) hh i1 a na its.toArray) (Draws.tuple (prog := X.prog) (w := X.w) hh i2 b nb its2.toArray) (Draws.tuple (prog := X.prog) (w := X.w) hh i3 e ne its3.toArray) hz hTI hTO ⟨h1, p⟩ ⟨h2, p2⟩ ⟨h3, p3⟩
      (by rw [List.size_toArray]; exact (List.getElem?_eq_some_iff.mp hv1).1) (by rw [List.size_toArray]; exact (List.getElem?_eq_some_iff.mp hv2).1) (by rw [List.size_toArray]; exact (List.getElem?_eq_some_iff.mp hv3).1) fun w1 w2 w3 h' tk g1 g2 g3 z' TO' s1' s2' s3' hT hsz hk => ?_
    have q1 : w1 = v1 := by
      have g : its.toArray[i]? = some w1 := g1
      rw [List.getElem?_toArray, hv1] at g
      exact (Option.some.inj g).symm
    have q2 : w2 = v2 := by
      have g : its2.toArray[i]? = some w2 := g2
      rw [List.getElem?_toArray, hv2] at g
      exact (Option.some.inj g).symm
    have q3 : w3 = v3 := by
      have g : its3.toArray[i]? = some w3 := g3
      rw [List.getElem?_toArray, hv3] at g
      exact (Option.some.inj g).symm
    subst q1; subst q2; subst q3
    refine ⟨_, rfl, wpAny_letOwnedTupleGo_zip (s := { s with heap := h', toks := tk }) z' fun h'' z'' sb => ?_⟩
    have hT2 : h''.get? s.heap.objs.size = some { cls := .type "tuple", data := .seq #[w1, w2, w3] } := (sb.2 _ (Nat.ne_of_gt hzl)).trans hT
    have new : ObjOk X.prog X.w (upd H s.heap.objs.size (.tup [x, y, u])) h'' s.heap.objs.size (.tup [x, y, u]) :=
      ⟨(by show 3 ≤ sizeLine; decide), [w1, w2, w3], .cons r1 (.cons r2 (.cons r3 .nil)), ⟨_, hT2, rfl, _, rfl⟩⟩
    have I1 : Inv X pins σ (upd H s.heap.objs.size (.tup [x, y, u])) { s with heap := h'', toks := tk } :=
      I.turnedNew (ch := [z, TI, TO, i1, i2, i3]) (fun c o hb q => (sb.2 c (fun q' => hb (by simp [q']))).trans (hk c o (fun q' => hb (by simp [q'])) (fun q' => hb (by simp [q'])) (fun q' => hb (by simp [q'])) (fun q' => hb (by simp [q'])) (fun q' => hb (by simp [q'])) q)) hf (Nat.le_refl _) new
    refine ⟨.ref s.heap.objs.size, _, I1, rfl, ⟨_, x, y, u, rfl, I.hok.fresh (Nat.le_refl _), rfl, fun l hl => by rw [I.tuple_inj hl hqx]; exact hx, fun l hl => by rw [I.tuple_inj hl hqy]; exact hy, fun l hl => by rw [I.tuple_inj hl hqz]; exact hu⟩, ⟨z'', ?_, ⟨w1, w2, w3, ?_⟩, ?_, ?_, ?_⟩, fun c hcm => ?_⟩
    · exact (sb.2 _ D.TIz).trans (hk _ _ D.TIz D.TITO D.TIi1 D.TIi2 D.TIi3 hTI)
    · exact (sb.2 _ D.TOz).trans TO'
    · exact s1'.1.at fun o q => (sb.2 _ (Ne.symm D.zi1)).trans q
    · exact s2'.1.at fun o q => (sb.2 _ (Ne.symm D.zi2)).trans q
    · exact s3'.1.at fun o q => (sb.2 _ (Ne.symm D.zi3)).trans q
    · have hlt : c < s.heap.objs.size := by
        have e' : c = z ∨ c = TI ∨ c = TO ∨ c = i1 ∨ c = i2 ∨ c = i3 := by simpa using hcm
        rcases e' with q | q | q | q | q | q
        · rw [q]; exact hzl
        · rw [q]; exact Heap.lt_size hTI
        · rw [q]; exact Heap.lt_size hTO
        · rw [q]; obtain ⟨_, e1, _⟩ := h1; exact Heap.lt_size e1
        · rw [q]; obtain ⟨_, e2, _⟩ := h2; exact Heap.lt_size e2
        · rw [q]; obtain ⟨_, e2, _⟩ := h3; exact Heap.lt_size e2
      rw [upd_ne (Nat.ne_of_lt hlt)]
      exact (hf c hcm).1
  done := by
    intro X hP hw hK hc i pins s σ H E I hf st hg
    subst hP hw hK
    obtain ⟨hz, hTI, ⟨x0, y0, u0, hTO⟩, h1, h2, h3⟩ := st
    obtain ⟨xs, ys, zs, hqx, hqy, hqz, l1, l2, l3⟩ := hg
    obtain ⟨its, rv, p, _⟩ := I.tuple hqx
    obtain ⟨its2, rv2, p2, _⟩ := I.tuple hqy
    obtain ⟨its3, rv3, p3, _⟩ := I.tuple hqz
    have hh : X.A.in1.handled = none := I.ok.hd hc
    have m1 : its.toArray.size = i := by rw [List.size_toArray, ← rv.length]; exact l1
    have m2 : its2.toArray.size = i := by rw [List.size_toArray, ← rv2.length]; exact l2
    have m3 : its3.toArray.size = i := by rw [List.size_toArray, ← rv3.length]; exact l3
    refine wpAny_pyNext_zipD3_end D (Draws.tuple (prog := X.prog) (w := X.w) hh i1 a na its.toArray) (Draws.tuple (prog := X.prog) (w := X.w) hh i2 b nb its2.toArray) (Draws.tuple (prog := X.prog) (w := X.w) hh i3 e ne its3.toArray) hz hTI hTO ⟨h1, p⟩ ⟨h2, p2⟩ ⟨h3, p3⟩ (by omega) (by omega) (by omega) (.inl m1.symm) fun h' tk hk => ⟨rfl, ?_⟩
    exact I.turnedL (t' := tk) (ch := [z, TI, TO, i1, i2, i3]) (fun c o hb q =>
      hk c o (fun q' => hb (by simp [q'])) (fun q' => hb (by simp [q'])) (fun q' => hb (by simp [q'])) (fun q' => hb (by simp [q'])) (fun q' => hb (by simp [q'])) q) hf
  self := fun A i s Q E st h => wpAny_pyIter_zip st.1 h
def iZip3 (K : PySem.W.Frag) (ta : TA) : TI := fun σ H R => ta σ H fun vs H1 => ∃ a b e xs ys zs, vs = [.ref a, .ref b, .ref e] ∧ SqT K H1 a xs ∧ SqT K H1 b ys ∧ SqT K H1 e zs ∧ R (Itz3 K a b e) H1
theorem pi_zip3 {X : Cx} {e1 e2 e3 : Expr} {ta : TA} {p pos tpos : Pos} {elts : List Expr} {kk : Nat} (hg : Gl X "zip") (hm : X.mg "zip" = none) (ha : PA X [e1, e2, e3] ta)
    (hs : starEach [e1, e2, e3] X.env = (false, eval e1 X.env) :: starEach [e2, e3] X.env := by rfl) (hpl : (backTo pos (starEach [e2, e3] X.env)).any (·.1) = false := by rfl) :
    PI X (.Tuple elts kk tpos) (.Call (.Name "zip" p) [e1, e2, e3] [] pos) (iZip3 X.K ta) := by
  refine ⟨fun pins s σ H R I h => ?_⟩
  refine Call_ (ld_blt I hg hm PyProof.Rows.boot_zip (PyProof.Rows.callWith_type1 (thn (ha.run pos pins s σ H _ I h) fun us s1 ⟨vs, H1, I1, r1, q1⟩ => ?_) hs hpl))
  obtain ⟨a, b, e, xs, ys, zs, ex, hqx, hqy, hqz, q⟩ := q1
  subst ex
  cases r1 with
  | cons r rr =>
    cases rr with
    | cons r' rr =>
      cases rr with
      | cons r'' rr =>
        cases rr
        cases r
        cases r'
        cases r''
        obtain ⟨its, rv, p1, _⟩ := I1.tuple hqx
        obtain ⟨its2, rv2, p2, _⟩ := I1.tuple hqy
        obtain ⟨its3, rv3, p3, _⟩ := I1.tuple hqz
        have la : a < s1.heap.objs.size := by obtain ⟨_, q, _⟩ := p1; exact Heap.lt_size q
        have lb : b < s1.heap.objs.size := by obtain ⟨_, q, _⟩ := p2; exact Heap.lt_size q
        have le : e < s1.heap.objs.size := by obtain ⟨_, q, _⟩ := p3; exact Heap.lt_size q
        refine zip_begins3 (begins_tuple a its.toArray) (begins_tuple b its2.toArray) (begins_tuple e its3.toArray) p1 p2 p3 fun h' hz hTI hTO h1 h2 h3 hsz hk => wpAny_pyIter_zip hz ?_
        have I2 : Inv X pins σ H1 { s1 with heap := h' } := I1.kept (t' := s1.toks) hk
        refine ⟨s1.heap.objs.size + 5, [s1.heap.objs.size + 5, s1.heap.objs.size + 3, s1.heap.objs.size + 4, s1.heap.objs.size, s1.heap.objs.size + 1, s1.heap.objs.size + 2], _, _, H1, rfl, I2,
          turn_zip3 (zip_sep3 (N := s1.heap.objs.size) (by simpa using la) (by simpa using lb) (by simpa using le)) (Nat.ne_of_lt la) (Nat.ne_of_lt (Nat.lt_succ_of_lt lb)) (Nat.ne_of_lt (Nat.lt_succ_of_lt (Nat.lt_succ_of_lt le))), ⟨hz, hTI, ⟨_, _, _, hTO⟩, ⟨_, h1, rfl, rfl⟩, ⟨_, h2, rfl, rfl⟩, ⟨_, h3, rfl, rfl⟩⟩, fun c hcm => ?_, q⟩
        have e' : c = s1.heap.objs.size + 5 ∨ c = s1.heap.objs.size + 3 ∨ c = s1.heap.objs.size + 4 ∨ c = s1.heap.objs.size ∨ c = s1.heap.objs.size + 1 ∨ c = s1.heap.objs.size + 2 := by simpa using hcm
        have hle : s1.heap.objs.size ≤ c := by
          rcases e' with z | z | z | z | z | z
          · rw [z]; exact Nat.le_add_right _ _
          · rw [z]; exact Nat.le_add_right _ _
          · rw [z]; exact Nat.le_add_right _ _
          · rw [z]; exact Nat.le_refl _
          · rw [z]; exact Nat.le_add_right _ _
          · rw [z]; exact Nat.le_add_right _ _
        exact I1.fpOk hle (I1.hok.fresh hle)
/-- what a turn of three brings -/
theorem walk_zip3 {K : PySem.W.Frag} {a b e : Addr} {xs ys zs : List V} (l2 : ys.length = xs.length) (l3 : zs.length = xs.length) : Walk (Itz3 K a b e) xs.length (fun H => SqT K H a xs ∧ SqT K H b ys ∧ SqT K H e zs)
    (fun i H v H' => ∃ T x y u, v = .ref T ∧ H T = none ∧ H' = upd H T (.tup [x, y, u]) ∧ xs[i]? = some x ∧ ys[i]? = some y ∧ zs[i]? = some u) := by
  refine ⟨fun i _ hi q => ?_, fun _ q => ⟨xs, ys, zs, q.1, q.2.1, q.2.2, rfl, l2, l3⟩, fun i H v H' _ q y => ?_⟩
  · exact ⟨xs, ys, zs, xs[i], ys[i], zs[i], q.1, q.2.1, q.2.2, by simp [hi], by simp [l2, hi], by simp [l3, hi]⟩
  · obtain ⟨T, x, y, u, h1, h2, h3, h4, h5, h6⟩ := y
    exact ⟨T, x, y, u, h1, h2, h3, h4 xs q.1, h5 ys q.2.1, h6 zs q.2.2⟩
/-! the least of a tuple of ints -/
def rMinT (K : PySem.W.Frag) : List V → Hp → VK → Prop := fun vs H Q => ∃ (a : Addr) (k : Int) (ks : List Int), vs = [V.ref a] ∧ SqT K H a ((k :: ks).map V.int) ∧ Q (.int (ks.foldl min k)) H
theorem cr_minT {X : Cx} (hc : X.calm = true) (hu : X.A.units + 64 < cLine) : CallR X (.builtin "min") (rMinT X.K) := by
  intro pins s σ H vs us Q I r h
  obtain ⟨a, k, ks, rfl, hs, q⟩ := h
  obtain ⟨u, rfl, ru⟩ := vals1 r
  obtain rfl : u = Value.ref a := ru
  obtain ⟨its, rv, p, _⟩ := I.tuple hs
  obtain ⟨as, hr⟩ := Dp.readsAll I ((k :: ks).map PyData.int) ((k :: ks).map V.int) its (dp_ints _) rv
  have hd := depth_ints (k :: ks)
  refine PySem.W.min_tuple_data (x := PyData.int k) (xs := ks.map PyData.int) (I.ok.hd hc) p (by simpa using hr) (alike_ints (k :: ks)) (by
    have : PyData.depthAll (PyData.int k :: ks.map PyData.int) ≤ 1 := hd
    omega) fun i v h' tk bs hv hrd hk => ?_
  rw [PySem.W.minD_ints] at hrd
  rw [List.getElem?_toArray] at hv
  obtain ⟨x, hx, rx⟩ := prd_at2 rv hv
  obtain ⟨j, _, rfl⟩ := map_at hx
  obtain ⟨t, rfl⟩ := rx
  have e := (hrd.unique _ _ (Reads.int j t)).1
  cases e
  exact ⟨.int _, H, I.kept (t' := tk) hk, ⟨t, rfl⟩, q⟩
theorem foldl_min_le : ∀ (ks : List Int) (k : Int), ks.foldl min k ≤ k ∧ ∀ x ∈ ks, ks.foldl min k ≤ x
  | [], k => ⟨Int.le_refl _, by simp⟩
  | y :: r, k => by
    obtain ⟨h1, h2⟩ := foldl_min_le r (min k y)
    rw [List.foldl_cons]
    refine ⟨by omega, fun x hx => ?_⟩
    rcases List.mem_cons.mp hx with e | e
    · subst e; omega
    · exact h2 x e
end Toy

namespace Toy
open PySem PySem.Spec PyProof.Rows L2
/-! offsets: plain mathematics -/
structure Met (n : Nat) (ws : List (List Int)) : Prop where
  nn : ∀ i j, i < n → j < n → 0 ≤ mat ws i j
  z : ∀ i, i < n → mat ws i i = 0
  tri : ∀ i j k, i < n → j < n → k < n → mat ws i k ≤ mat ws i j + mat ws j k
theorem Least.met {n : Nat} {R : Nat → Nat → Int} {ws : List (List Int)} (L : Least n R (mat ws)) (h : ∀ i j, i < n → j < n → 0 ≤ R i j) : Met n ws := by
  refine ⟨fun i j hi hj => ?_, fun i hi => ?_, fun i j k hi hj hk => ?_⟩
  · obtain ⟨l, w, e⟩ := L.has i j hi hj
    rw [← e]; exact rc_nn h l w.lt
  · have h1 := L.le i i [i] hi hi ⟨rfl, rfl, by simpa using hi⟩
    obtain ⟨l, w, e⟩ := L.has i i hi hi
    have h2 := rc_nn h l w.lt
    have h3 : rc R [i] = 0 := rfl
    omega
  · obtain ⟨l, w, e⟩ := L.has i j hi hj
    obtain ⟨l', w', e'⟩ := L.has j k hj hk
    obtain ⟨m, wm, em⟩ := way_cat (R := R) w w'
    have := L.le i k m hi hk wm
    omega
theorem SysOk.met {S : Sys} (ok : SysOk S) : Met S.n.toNat S.ws := ok.wy.least.met ok.sq.nn
/-- what is served, with the prices so far -/
def svF (off : List Int) (row : List (Option Int)) (a : Nat) : Option (Int × Nat) := match row.getD a none with
  | some k => some (off.getD a 0 + k, a)
  | none => none
def srv (n : Nat) (off : List Int) (row : List (Option Int)) : List (Int × Nat) := (List.range n).filterMap (svF off row)
theorem svF_some {off : List Int} {row : List (Option Int)} {a : Nat} {k : Int} (h : row.getD a none = some k) : svF off row a = some (off.getD a 0 + k, a) := by unfold svF; rw [h]
theorem svF_none {off : List Int} {row : List (Option Int)} {a : Nat} (h : row.getD a none = none) : svF off row a = none := by unfold svF; rw [h]
theorem srv_mem {n : Nat} {off : List Int} {row : List (Option Int)} {q : Int × Nat} : q ∈ srv n off row ↔ ∃ a k, a < n ∧ row.getD a none = some k ∧ q = (off.getD a 0 + k, a) := by
  unfold srv
  rw [List.mem_filterMap]
  constructor
  · rintro ⟨a, ha, e⟩
    cases hc : row.getD a none with
    | none => rw [svF_none hc] at e; cases e
    | some k => rw [svF_some hc] at e; exact ⟨a, k, List.mem_range.mp ha, hc, (Option.some.inj e).symm⟩
  · rintro ⟨a, k, ha, hk, rfl⟩
    exact ⟨a, List.mem_range.mpr ha, svF_some hk⟩
def rawAt (ws : List (List Int)) (sv : List (Int × Nat)) (b : Nat) : Int := minL (sv.map fun q => q.1 + mat ws q.2 b)
def rawL (n : Nat) (ws : List (List Int)) (sv : List (Int × Nat)) : List Int := (List.range n).map (rawAt ws sv)
theorem rawL_len {n : Nat} {ws : List (List Int)} {sv : List (Int × Nat)} : (rawL n ws sv).length = n := by unfold rawL; rw [List.length_map, List.length_range]
theorem rawL_at {n : Nat} {ws : List (List Int)} {sv : List (Int × Nat)} {b : Nat} (h : b < n) : (rawL n ws sv).getD b 0 = rawAt ws sv b := by
  unfold rawL
  rw [List.getD_eq_getElem?_getD, List.getElem?_map, List.getElem?_range h]
  rfl
theorem raw_le {ws : List (List Int)} {sv : List (Int × Nat)} {b : Nat} {q : Int × Nat} (h : q ∈ sv) : rawAt ws sv b ≤ q.1 + mat ws q.2 b := minL_le (List.mem_map.mpr ⟨q, h, rfl⟩)
theorem raw_has {ws : List (List Int)} {sv : List (Int × Nat)} {b : Nat} (h : sv ≠ []) : ∃ q ∈ sv, rawAt ws sv b = q.1 + mat ws q.2 b := by
  have hne : sv.map (fun q => q.1 + mat ws q.2 b) ≠ [] := by
    intro e
    exact h (List.map_eq_nil_iff.mp e)
  obtain ⟨q, hq, e⟩ := List.mem_map.mp (minL_mem hne)
  exact ⟨q, hq, e.symm⟩
def newOff (r : List Int) : List Int := r.map fun c => c - minL r
/-- right offsets -/
structure OffOk (n : Nat) (ws : List (List Int)) (off : List Int) : Prop where
  len : off.length = n
  nn : ∀ b, b < n → 0 ≤ off.getD b 0
  zero : ∃ b, b < n ∧ off.getD b 0 = 0
  tri : ∀ a b, a < n → b < n → off.getD b 0 ≤ off.getD a 0 + mat ws a b
/-- offsets of a row, and the sum of its rises -/
structure Offs (n : Nat) (ws : List (List Int)) (rs : List (List (Option Int))) (off : List Int) (tot : Int) : Prop where
  lo : ∀ ps c a b, Run n ws rs ps c a → b < n → off.getD b 0 + tot ≤ c + mat ws a b
  at_ : ∀ b, b < n → ∃ ps c a, Run n ws rs ps c a ∧ off.getD b 0 + tot = c + mat ws a b
theorem Offs.first {n : Nat} {ws : List (List Int)} {off : List Int} (e : ∀ b, b < n → off.getD b 0 = mat ws 0 b) : Offs n ws [] off 0 := by
  refine ⟨fun ps c a b h hb => ?_, fun b hb => ⟨[], 0, 0, .nil, by rw [e b hb]; omega⟩⟩
  have hl : ps = [] := List.eq_nil_of_length_eq_zero (by have := h.len; simpa using this)
  subst hl
  obtain ⟨e1, e2⟩ := (Run.nil (n := n) (ws := ws)).fn h
  subst e1; subst e2
  rw [e b hb]; omega
theorem OffOk.first {n : Nat} {ws : List (List Int)} {off : List Int} (M : Met n ws) (hn : 0 < n) (hl : off.length = n) (e : ∀ b, b < n → off.getD b 0 = mat ws 0 b) : OffOk n ws off := by
  refine ⟨hl, fun b hb => by rw [e b hb]; exact M.nn _ _ hn hb, ⟨0, hn, by rw [e 0 hn]; exact M.z 0 hn⟩, fun a b ha hb => ?_⟩
  rw [e a ha, e b hb]
  exact M.tri _ _ _ hn ha hb
section
variable {n : Nat} {ws : List (List Int)} {off : List Int} {row : List (Option Int)}
theorem srv_ne (hlen : row.length = n) (hs : ∃ x : Int, some x ∈ row) : srv n off row ≠ [] := by
  obtain ⟨x, hx⟩ := hs
  obtain ⟨p, hp⟩ := List.mem_iff_getElem?.mp hx
  have hl := (List.getElem?_eq_some_iff.mp hp).1
  exact List.ne_nil_of_mem (srv_mem.mpr ⟨p, x, by omega, by rw [List.getD_eq_getElem?_getD, hp]; rfl, rfl⟩)
theorem newOff_at {r : List Int} {b : Nat} (h : b < r.length) : (newOff r).getD b 0 = r.getD b 0 - minL r := by
  unfold newOff
  rw [List.getD_eq_getElem?_getD, List.getElem?_map, List.getD_eq_getElem?_getD, List.getElem?_eq_getElem h]
  rfl
theorem min_at {r : List Int} (h : 0 < r.length) : (∃ b, b < r.length ∧ r.getD b 0 = minL r) ∧ ∀ b, b < r.length → minL r ≤ r.getD b 0 := by
  have hne : r ≠ [] := by intro e; subst e; simp at h
  constructor
  · obtain ⟨b, hb, e⟩ := List.getElem_of_mem (minL_mem hne)
    exact ⟨b, hb, by rw [List.getD_eq_getElem?_getD, List.getElem?_eq_getElem hb]; exact e⟩
  · intro b hb
    rw [List.getD_eq_getElem?_getD, List.getElem?_eq_getElem hb]
    exact minL_le (List.getElem_mem hb)
theorem OffOk.step (M : Met n ws) (hn : 0 < n) (hlen : row.length = n) (hs : ∃ x : Int, some x ∈ row) : OffOk n ws (newOff (rawL n ws (srv n off row))) := by
  have hr : (rawL n ws (srv n off row)).length = n := rawL_len
  obtain ⟨⟨b0, hb0, e0⟩, hmin⟩ := min_at (r := rawL n ws (srv n off row)) (by omega)
  have hne := srv_ne (off := off) hlen hs
  refine ⟨by unfold newOff; rw [List.length_map]; exact hr, fun b hb => ?_, ⟨b0, by omega, ?_⟩, fun a b ha hb => ?_⟩
  · rw [newOff_at (by omega)]
    have := hmin b (by omega)
    omega
  · rw [newOff_at hb0]; omega
  · rw [newOff_at (by omega), newOff_at (by omega), rawL_at ha, rawL_at hb]
    obtain ⟨q, hq, e⟩ := raw_has (ws := ws) (b := a) hne
    obtain ⟨p, k, hp, _, rfl⟩ := srv_mem.mp hq
    have h1 := raw_le (ws := ws) (b := b) hq
    have h2 := M.tri p a b hp ha hb
    simp only at e h1
    omega
theorem rise_ge (O : OffOk n ws off) (M : Met n ws) (hn : 0 < n) (hlen : row.length = n) (hs : ∃ x : Int, some x ∈ row) : ∃ x : Int, some x ∈ row ∧ x ≤ minL (rawL n ws (srv n off row)) := by
  have hr : (rawL n ws (srv n off row)).length = n := rawL_len
  obtain ⟨⟨b, hb, e⟩, _⟩ := min_at (r := rawL n ws (srv n off row)) (by omega)
  rw [rawL_at (by omega)] at e
  obtain ⟨q, hq, e2⟩ := raw_has (ws := ws) (b := b) (srv_ne (off := off) hlen hs)
  obtain ⟨p, k, hp, hk, rfl⟩ := srv_mem.mp hq
  have h1 := O.nn p hp
  have h2 := M.nn p b hp (by omega)
  refine ⟨k, ?_, by simp only at e2; omega⟩
  rw [List.getD_eq_getElem?_getD] at hk
  cases hc : row[p]? with
  | none => rw [hc] at hk; cases hk
  | some o =>
    rw [hc] at hk
    have hk2 : o = some k := hk
    subst hk2
    exact List.mem_of_getElem? hc
theorem Offs.step (hn : 0 < n) (hlen : row.length = n) (hs : ∃ x : Int, some x ∈ row) {rs : List (List (Option Int))} {tot : Int} (O : Offs n ws rs off tot) :
    Offs n ws (rs ++ [row]) (newOff (rawL n ws (srv n off row))) (tot + minL (rawL n ws (srv n off row))) := by
  have hr : (rawL n ws (srv n off row)).length = n := rawL_len
  refine ⟨fun ps c a b h hb => ?_, fun b hb => ?_⟩
  · rw [newOff_at (by omega), rawL_at hb]
    obtain ⟨ps0, c0, a0, k, rfl, h0, ha, hk, rfl⟩ := h.inv
    have h1 := raw_le (ws := ws) (b := b) (srv_mem.mpr ⟨a, k, ha, hk, rfl⟩ : (off.getD a 0 + k, a) ∈ srv n off row)
    have h2 := O.lo _ _ _ a h0 ha
    simp only at h1
    omega
  · rw [newOff_at (by omega), rawL_at hb]
    obtain ⟨q, hq, e⟩ := raw_has (ws := ws) (b := b) (srv_ne (off := off) hlen hs)
    obtain ⟨p, k, hp, hk, rfl⟩ := srv_mem.mp hq
    obtain ⟨ps, c, a, h0, e0⟩ := O.at_ p hp
    refine ⟨ps ++ [p], c + mat ws a p + k, p, .snoc h0 hp hk, ?_⟩
    simp only at e
    omega
/-- the sum of the rises is the wisest price -/
theorem Offs.wise (M : Met n ws) (hn : 0 < n) {rs : List (List (Option Int))} {tot : Int} (O : Offs n ws rs off tot) (K : OffOk n ws off) {ps : List Nat} {c : Int} {a : Nat} (h : Run n ws rs ps c a) (e : c = (val n ws rs).getD 0 0) : c = tot := by
  have ha := h.lt hn
  have h1 := O.lo _ _ _ a h ha
  have h2 := K.nn a ha
  rw [M.z a ha] at h1
  obtain ⟨b, hb, eb⟩ := K.zero
  obtain ⟨ps', c', a', h', e'⟩ := O.at_ b hb
  have h3 := M.nn a' b (h'.lt hn) hb
  have h4 := h'.ge hn
  omega
end
end Toy

namespace Toy
open PySem PySem.Spec PyProof.Rows L2
/-! things of the built-in kinds, whatever they are; all that belongs to them stands at addresses of A -/
inductive Dat (A : Addr → Prop) (H : Hp) : V → Prop
  | non : Dat A H .non
  | bl (b : Bool) : Dat A H (.bl b)
  | int (i : Int) : Dat A H (.int i)
  | str (z : Str) : Dat A H (.str z)
  | lst (a : Addr) (xs : List V) : A a → H a = some (.lst xs) → (∀ x ∈ xs, Dat A H x) → Dat A H (.ref a)
  | tup (a : Addr) (xs : List V) : A a → H a = some (.tup xs) → (∀ x ∈ xs, Dat A H x) → Dat A H (.ref a)
  | dK (a : Addr) (kvs : List (Key × V)) : A a → H a = some (.dK kvs) → (∀ q ∈ kvs, Dat A H q.2) → Dat A H (.ref a)
theorem Dat.mono {A B : Addr → Prop} {H H' : Hp} {v : V} (D : Dat A H v) (hk : ∀ a o, A a → H a = some o → H' a = some o) (hA : ∀ a, A a → (∃ o, H a = some o) → B a) : Dat B H' v := by
  induction D with
  | non => exact .non
  | bl b => exact .bl b
  | int i => exact .int i
  | str z => exact .str z
  | lst a xs h1 h2 _ ih => exact .lst a xs (hA a h1 ⟨_, h2⟩) (hk _ _ h1 h2) ih
  | tup a xs h1 h2 _ ih => exact .tup a xs (hA a h1 ⟨_, h2⟩) (hk _ _ h1 h2) ih
  | dK a kvs h1 h2 _ ih => exact .dK a kvs (hA a h1 ⟨_, h2⟩) (hk _ _ h1 h2) ih
theorem Dat.same {A : Addr → Prop} {H H' : Hp} {v : V} (D : Dat A H v) (k : Same H H') : Dat A H' v := D.mono (fun a o _ h => k a o h) fun _ h _ => h
theorem Dat.keep {d : Addr} {H H' : Hp} {v : V} (D : Dat (fun a => a ≠ d) H v) (k : Keep d H H') : Dat (fun a => a ≠ d) H' v := D.mono (fun a o n h => k a o n h) fun _ h _ => h
theorem Dat.ty {A : Addr → Prop} {H : Hp} {v : V} (D : Dat A H v) : ∃ n, tyN H v = some n := by
  cases D with
  | non => exact ⟨_, rfl⟩
  | bl b => exact ⟨_, rfl⟩
  | int i => exact ⟨_, rfl⟩
  | str z => exact ⟨_, rfl⟩
  | lst a xs h1 h2 _ => exact ⟨"list", by unfold tyN; simp only [h2]⟩
  | tup a xs h1 h2 _ => exact ⟨"tuple", ty_tup h2⟩
  | dK a kvs h1 h2 _ => exact ⟨"dict", ty_dK h2⟩
theorem Dat.item {A : Addr → Prop} {H : Hp} {a : Addr} {xs : List V} {x : V} (D : Dat A H (.ref a)) (h : H a = some (.tup xs) ∨ H a = some (.lst xs)) (m : x ∈ xs) : Dat A H x := by
  cases D with
  | lst a' ys h1 h2 h3 =>
    rcases h with h | h
    · rw [h2] at h; cases h
    · rw [h2] at h; cases h; exact h3 _ m
  | tup a' ys h1 h2 h3 =>
    rcases h with h | h
    · rw [h2] at h; cases h; exact h3 _ m
    · rw [h2] at h; cases h
  | dK a' ys h1 h2 h3 =>
    rcases h with h | h <;> (rw [h2] at h; cases h)
/-- a list or a tuple -/
def SeqAt' (H : Hp) (a : Addr) (ts : List V) : Prop := H a = some (.tup ts) ∨ H a = some (.lst ts)
theorem SeqAt'.same {H H' : Hp} {a : Addr} {ts : List V} (h : SeqAt' H a ts) (k : Same H H') : SeqAt' H' a ts := h.elim (fun q => .inl (k _ _ q)) fun q => .inr (k _ _ q)
theorem SeqAt'.fn {H : Hp} {a : Addr} {ts us : List V} (h : SeqAt' H a ts) (g : SeqAt' H a us) : ts = us := by
  rcases h with h | h <;> rcases g with g | g <;> (rw [h] at g; cases g) <;> rfl
theorem SeqAt'.ix {K : PySem.W.Frag} {H : Hp} {a : Addr} {ts : List V} {i : Int} {x : V} {Q : VK} (h : SeqAt' H a ts) (hx : atI ts i = some x) (q : Q x H) : rIxL K (.ref a) (.int i) H Q ∨ rIxT K (.ref a) (.int i) H Q :=
  h.elim (fun e => .inr ⟨a, ts, i, x, rfl, rfl, SqT.of e, hx, q⟩) fun e => .inl ⟨a, ts, i, x, rfl, rfl, SqL.of e, hx, q⟩
theorem SeqAt'.len {K : PySem.W.Frag} {H : Hp} {a : Addr} {ts : List V} (h : SeqAt' H a ts) : SqL K H a ts ∨ SqT K H a ts := h.elim (fun e => .inr (SqT.of e)) fun e => .inl (SqL.of e)
theorem SeqAt'.ty {H : Hp} {a : Addr} {ts : List V} (h : SeqAt' H a ts) : ∃ n, tyN H (.ref a) = some n ∧ (n == "list" || n == "tuple") = true := by
  rcases h with q | q
  · exact ⟨"tuple", ty_tup q, rfl⟩
  · exact ⟨"list", by unfold tyN; simp only [q], rfl⟩
theorem tyN_seq {H : Hp} {v : V} {n : String} (h : tyN H v = some n) (hn : (n == "list" || n == "tuple") = true) : ∃ a ts, v = .ref a ∧ SeqAt' H a ts := by
  cases v with
  | ref a =>
    unfold tyN at h
    cases e : H a with
    | none => simp only [e] at h; cases h
    | some o =>
      cases o with
      | tup xs => exact ⟨a, xs, rfl, .inl e⟩
      | lst xs => exact ⟨a, xs, rfl, .inr e⟩
      | _ => simp only [e] at h <;> cases h <;> simp at hn
  | _ => cases h <;> simp at hn
/-- lists of flags that tell of the items ahead -/
structure Told (p : Nat → Prop) (j : Nat) (bs : List Bool) : Prop where
  len : bs.length = j
  iff : ∀ i b, bs[i]? = some b → (b = true ↔ p i)
theorem Told.nil {p : Nat → Prop} : Told p 0 [] := ⟨rfl, fun i b h => by simp at h⟩
theorem Told.snoc {p : Nat → Prop} {j : Nat} {bs : List Bool} {b : Bool} (t : Told p j bs) (h : b = true ↔ p j) : Told p (j + 1) (bs ++ [b]) := by
  refine ⟨by rw [List.length_append, t.len]; rfl, fun i c hc => ?_⟩
  by_cases hi : i < bs.length
  · rw [List.getElem?_append_left hi] at hc; exact t.iff i c hc
  · rw [List.getElem?_append_right (by omega)] at hc
    have hz : i - bs.length = 0 := by
      have := (List.getElem?_eq_some_iff.mp hc).1
      simp at this; omega
    rw [hz] at hc
    have : c = b := by simpa using hc.symm
    subst this
    rw [show i = j by have := t.len; omega]; exact h
theorem Told.all {p : Nat → Prop} {j : Nat} {bs : List Bool} (t : Told p j bs) : bs.all id = true ↔ ∀ i, i < j → p i := by
  rw [List.all_eq_true]
  constructor
  · intro h i hi
    have hb : bs[i]? = some (bs[i]'(by rw [t.len]; exact hi)) := List.getElem?_eq_getElem _
    exact (t.iff i _ hb).mp (h _ (List.mem_of_getElem? hb))
  · intro h b hb
    obtain ⟨i, hi⟩ := List.getElem?_of_mem hb
    exact (t.iff i b hi).mpr (h i (by have := (List.getElem?_eq_some_iff.mp hi).1; have := t.len; omega))
theorem Told.any {p : Nat → Prop} {j : Nat} {bs : List Bool} (t : Told p j bs) : bs.any id = true ↔ ∃ i, i < j ∧ p i := by
  rw [List.any_eq_true]
  constructor
  · rintro ⟨b, hb, e⟩
    obtain ⟨i, hi⟩ := List.getElem?_of_mem hb
    exact ⟨i, by have := (List.getElem?_eq_some_iff.mp hi).1; have := t.len; omega, (t.iff i b hi).mp e⟩
  · rintro ⟨i, hi, h⟩
    have hb : bs[i]? = some (bs[i]'(by rw [t.len]; exact hi)) := List.getElem?_eq_getElem _
    exact ⟨_, List.mem_of_getElem? hb, (t.iff i _ hb).mpr h⟩
theorem bl_snoc (bs : List Bool) (b : Bool) : bs.map V.bl ++ [V.bl b] = (bs ++ [b]).map V.bl := by rw [List.map_append]; rfl
/-! a tuple of so many ints -/
def IsInts (H : Hp) (v : V) (m : Int) : Prop := ∃ ks, IntT H v ks ∧ (ks.length : Int) = m
theorem IsInts.same {H H' : Hp} {v : V} {m : Int} (h : IsInts H v m) (k : Same H H') : IsInts H' v m := by
  obtain ⟨ks, h1, h2⟩ := h
  exact ⟨ks, IntT.firm _ _ _ _ (same_tups k) h1, h2⟩
theorem isInts_of {H : Hp} {v : V} {m : Int} {xs : List V} {a : Addr} (e : v = .ref a) (h : H a = some (.tup xs)) : IsInts H v m ↔ ((xs.length : Int) = m ∧ ∀ i, i < xs.length → isI (xs.getD i .non) = true) := by
  subst e
  constructor
  · rintro ⟨ks, ⟨a', e, h'⟩, hl⟩
    cases e
    rw [h] at h'
    cases h'
    refine ⟨by rw [List.length_map]; exact hl, fun i hi => ?_⟩
    rw [List.length_map] at hi
    rw [List.getD_eq_getElem?_getD, List.getElem?_map, List.getElem?_eq_getElem hi]
    rfl
  · rintro ⟨h1, h2⟩
    have : ∀ xs : List V, (∀ i, i < xs.length → isI (xs.getD i .non) = true) → ∃ ks : List Int, xs = ks.map V.int := by
      intro xs
      induction xs with
      | nil => exact fun _ => ⟨[], rfl⟩
      | cons x t ih =>
        intro hx
        obtain ⟨ks, rfl⟩ := ih fun i hi => by
          have := hx (i + 1) (by rw [List.length_cons]; omega)
          simpa using this
        have h0 := hx 0 (by simp)
        cases x with
        | int i => exact ⟨i :: ks, rfl⟩
        | _ => simp [isI] at h0
    obtain ⟨ks, rfl⟩ := this xs h2
    exact ⟨ks, ⟨a, rfl, h⟩, by rw [← h1, List.length_map]⟩
theorem isInts_no {H : Hp} {v : V} {m : Int} (h : isTup H m v = false) : ¬ IsInts H v m := by
  rintro ⟨ks, ⟨a, rfl, h'⟩, hl⟩
  rw [tup_isTup h' (by rw [List.length_map]; exact hl)] at h
  cases h
theorem isTup_yes {H : Hp} {v : V} {m : Int} (h : isTup H m v = true) : ∃ a xs, v = .ref a ∧ H a = some (.tup xs) ∧ (xs.length : Int) = m := by
  cases v with
  | ref a =>
    unfold isTup at h
    cases e : H a with
    | none => simp only [e] at h; cases h
    | some o =>
      cases o with
      | tup xs => simp only [e] at h; exact ⟨a, xs, rfl, e, of_decide_eq_true h⟩
      | _ => simp only [e] at h; cases h
  | _ => cases h
theorem foldl_max_le : ∀ (ks : List Int) (k m : Int), ks.foldl max k ≤ m ↔ k ≤ m ∧ ∀ x ∈ ks, x ≤ m
  | [], k, m => by simp
  | x :: t, k, m => by
    rw [List.foldl_cons, foldl_max_le t (max k x) m]
    simp only [List.mem_cons, forall_eq_or_imp, Int.max_le]
    exact ⟨fun ⟨⟨a, b⟩, c⟩ => ⟨a, b, c⟩, fun ⟨a, b, c⟩ => ⟨⟨a, b⟩, c⟩⟩
theorem getD_at {α : Type} {xs : List α} {i : Nat} {x d : α} (h : xs[i]? = some x) : xs.getD i d = x := by rw [List.getD_eq_getElem?_getD, h]; rfl
theorem le_not {a b : Int} (h : ¬ a < b) : b ≤ a := by omega
/-! floors of rows -/
structure FlOk (n : Nat) (ws : List (List Int)) (rs : List (List (Option Int))) (hs : List (List Int)) : Prop where
  last : ∀ a, a < n → (hs.getD rs.length []).getD a 0 ≤ 0
  step : ∀ k row, rs[k]? = some row → ∀ a b p, a < n → b < n → row.getD b none = some p → (hs.getD k []).getD a 0 ≤ mat ws a b + p + (hs.getD (k + 1) []).getD b 0
def FloorIs (n : Int) (ws : List (List Int)) (rs : List (List (Option Int))) (H : Hp) (v : V) : Prop :=
  ∃ a ts hs, v = .ref a ∧ SeqAt' H a ts ∧ ts.length = rs.length + 1 ∧ Paired (fun z ks => IntT H z ks ∧ (ks.length : Int) = n) ts hs ∧ FlOk n.toNat ws rs hs
def headOf (H : Hp) (v : V) (x : Int) : Prop := ∃ (a : Addr) (ts : List V) (b : Addr) (ks : List Int), v = .ref a ∧ SeqAt' H a ts ∧ ts[0]? = some (.ref b) ∧ H b = some (.tup (ks.map V.int)) ∧ ks.getD 0 0 = x
theorem headOf.fn {H : Hp} {v : V} {x y : Int} (h : headOf H v x) (g : headOf H v y) : x = y := by
  obtain ⟨a, ts, b, ks, rfl, h2, h3, h4, rfl⟩ := h
  obtain ⟨a', ts', b', ks', e, g2, g3, g4, rfl⟩ := g
  cases e
  obtain rfl := h2.fn g2
  rw [h3] at g3; cases g3
  rw [h4] at g4
  have : ks.map V.int = ks'.map V.int := by injection g4 with g4; injection g4
  have : ks = ks' := by
    have inj : ∀ xs ys : List Int, xs.map V.int = ys.map V.int → xs = ys := by
      intro xs
      induction xs with
      | nil => intro ys h; cases ys with | nil => rfl | cons y t => cases h
      | cons x t ih =>
        intro ys h
        cases ys with
        | nil => cases h
        | cons y u =>
          rw [List.map_cons, List.map_cons] at h
          injection h with h1 h2
          injection h1 with h1
          rw [h1, ih u h2]
    exact inj _ _ this
  rw [this]
theorem paired_ints {H : Hp} {n : Int} : ∀ {ts : List V}, (∀ i, i < ts.length → IsInts H (ts.getD i .non) n) → ∃ hs, Paired (fun z ks => IntT H z ks ∧ (ks.length : Int) = n) ts hs
  | [], _ => ⟨[], .nil⟩
  | z :: t, h => by
    obtain ⟨hs, hp⟩ := paired_ints (H := H) (n := n) (ts := t) fun i hi => by
      have := h (i + 1) (by rw [List.length_cons]; omega)
      simpa using this
    obtain ⟨ks, h1, h2⟩ := h 0 (by simp)
    exact ⟨ks :: hs, .cons ⟨by simpa using h1, h2⟩ hp⟩
theorem ceil_iff {n : Nat} {ws : List (List Int)} {row : List (Option Int)} {ah ks : List Int} (hne : ∀ a, chs n ws row ah a ≠ []) : (∀ a, a < n → ks.getD a 0 ≤ (ceil n ws row ah).getD a 0) ↔ ∀ a b p, a < n → b < n → row.getD b none = some p → ks.getD a 0 ≤ mat ws a b + p + ah.getD b 0 := by
  constructor
  · intro h a b p ha hb hp
    exact Int.le_trans (h a ha) (ceil_le ha hb hp)
  · intro h a ha
    rw [ceil_at ha]
    have hm := minL_mem (l := (chs n ws row ah a).map (·.1)) (by intro e; exact hne a (List.map_eq_nil_iff.mp e))
    obtain ⟨⟨x, y⟩, hq, hx⟩ := List.mem_map.mp hm
    obtain ⟨pp, k, hpp, hk, e⟩ := chs_mem.mp hq
    cases e
    have hx : mat ws a pp + k + ah.getD pp 0 = _ := hx
    rw [← hx]
    exact h a pp k ha hpp hk
end Toy

namespace Toy
open PySem PySem.Spec PyProof.Rows L2
/-! the text by places -/
def top (i : Nat) : Stmt := PySem.Challenge.pw_hintslie_k06_floors_judged.main.body.getD i (.Pass ⟨0, 0, 0, 0⟩)
abbrev s_is_integer : Stmt := top 7
theorem sc_is_integer : FnScope ["thing"] ["thing"] (defScope s_is_integer) := ⟨rfl, rfl, rfl, by decide +kernel, rfl, by decide +kernel, by decide +kernel⟩
abbrev s_is_natural : Stmt := top 8
theorem sc_is_natural : FnScope ["thing"] ["thing"] (defScope s_is_natural) := ⟨rfl, rfl, rfl, by decide +kernel, rfl, by decide +kernel, by decide +kernel⟩
abbrev s_is_below : Stmt := top 9
theorem sc_is_below : FnScope ["thing", "many"] ["thing", "many"] (defScope s_is_below) := ⟨rfl, rfl, rfl, by decide +kernel, rfl, by decide +kernel, by decide +kernel⟩
abbrev s_is_row : Stmt := top 10
theorem sc_is_row : FnScope ["thing"] ["thing"] (defScope s_is_row) := ⟨rfl, rfl, rfl, by decide +kernel, rfl, by decide +kernel, by decide +kernel⟩
abbrev s_is_tuple_of : Stmt := top 11
theorem sc_is_tuple_of : FnScope ["thing", "many"] ["thing", "many"] (defScope s_is_tuple_of) := ⟨rfl, rfl, rfl, by decide +kernel, rfl, by decide +kernel, by decide +kernel⟩
abbrev s_is_name : Stmt := top 12
theorem sc_is_name : FnScope ["thing", "letter"] ["thing"] (defScope s_is_name) := ⟨rfl, rfl, rfl, by decide +kernel, rfl, by decide +kernel, by decide +kernel⟩
abbrev s_is_known : Stmt := top 13
theorem sc_is_known : FnScope ["thing", "names"] ["thing", "names"] (defScope s_is_known) := ⟨rfl, rfl, rfl, by decide +kernel, rfl, by decide +kernel, by decide +kernel⟩
abbrev s__choices : Stmt := top 15
theorem sc__choices : FnScope ["system", "start", "name", "ahead", "ways", "prices", "post"] ["system", "start", "name", "ahead"] (defScope s__choices) := ⟨rfl, rfl, rfl, by decide +kernel, rfl, by decide +kernel, by decide +kernel⟩
abbrev s__ceilings : Stmt := top 16
theorem sc__ceilings : FnScope ["system", "name", "ahead", "start"] ["system", "name", "ahead"] (defScope s__ceilings) := ⟨rfl, rfl, rfl, by decide +kernel, rfl, by decide +kernel, by decide +kernel⟩
abbrev s__is_integers : Stmt := top 17
theorem sc__is_integers : FnScope ["thing", "many", "item"] ["thing", "many"] (defScope s__is_integers) := ⟨rfl, rfl, rfl, by decide +kernel, rfl, by decide +kernel, by decide +kernel⟩
abbrev s_is_floor : Stmt := top 18
theorem sc_is_floor : FnScope ["system", "row", "price", "thing", "index", "name", "most", "items", "item", "ceiling"] ["system", "row", "price", "thing"] (defScope s_is_floor) := ⟨rfl, rfl, rfl, by decide +kernel, rfl, by decide +kernel, by decide +kernel⟩
abbrev s__is_price : Stmt := top 23
theorem sc__is_price : FnScope ["thing"] ["thing"] (defScope s__is_price) := ⟨rfl, rfl, rfl, by decide +kernel, rfl, by decide +kernel, by decide +kernel⟩
abbrev s_is_moves : Stmt := top 24
theorem sc_is_moves : FnScope ["thing", "post", "prices", "price"] ["thing"] (defScope s_is_moves) := ⟨rfl, rfl, rfl, by decide +kernel, rfl, by decide +kernel, by decide +kernel⟩
abbrev s__is_prices : Stmt := top 25
theorem sc__is_prices : FnScope ["thing", "posts", "told", "price"] ["thing", "posts"] (defScope s__is_prices) := ⟨rfl, rfl, rfl, by decide +kernel, rfl, by decide +kernel, by decide +kernel⟩
abbrev s__is_requests : Stmt := top 26
theorem sc__is_requests : FnScope ["thing", "posts", "name"] ["thing", "posts"] (defScope s__is_requests) := ⟨rfl, rfl, rfl, by decide +kernel, rfl, by decide +kernel, by decide +kernel⟩
abbrev s_least_ways : Stmt := top 27
theorem sc_least_ways : FnScope ["moves", "ways", "posts", "middle", "start", "end", "prices", "row"] ["moves"] (defScope s_least_ways) := ⟨rfl, rfl, rfl, by decide +kernel, rfl, by decide +kernel, by decide +kernel⟩
abbrev s_SystemZ_initZ : Stmt := inClass (top 28) 0
theorem sc_SystemZ_initZ : FnScope ["self", "moves", "requests", "name"] ["self", "moves", "requests"] (defScope s_SystemZ_initZ) := ⟨rfl, rfl, rfl, by decide +kernel, rfl, by decide +kernel, by decide +kernel⟩
abbrev s_System_prices : Stmt := inClass (top 28) 5
theorem sc_System_prices : FnScope ["self", "name"] ["self", "name"] (defScope s_System_prices) := ⟨rfl, rfl, rfl, by decide +kernel, rfl, by decide +kernel, by decide +kernel⟩
abbrev s__law_dice : Stmt := top 30
theorem sc__law_dice : FnScope ["script", "cell"] ["script"] (defScope s__law_dice) := ⟨rfl, rfl, rfl, by decide +kernel, rfl, by decide +kernel, by decide +kernel⟩
abbrev s__law_draw : Stmt := top 31
theorem sc__law_draw : FnScope ["dice", "many", "cell", "value", "number"] ["dice", "many"] (defScope s__law_draw) := ⟨rfl, rfl, rfl, by decide +kernel, rfl, by decide +kernel, by decide +kernel⟩
abbrev s__law_word : Stmt := top 32
theorem sc__law_word : FnScope ["dice", "most", "letters", "word", "k"] ["dice", "most"] (defScope s__law_word) := ⟨rfl, rfl, rfl, by decide +kernel, rfl, by decide +kernel, by decide +kernel⟩
abbrev s__law_names : Stmt := top 33
theorem sc__law_names : FnScope ["dice", "many", "most", "names", "k", "word"] ["dice", "many", "most"] (defScope s__law_names) := ⟨rfl, rfl, rfl, by decide +kernel, rfl, by decide +kernel, by decide +kernel⟩
abbrev s__law_moves : Stmt := top 34
theorem sc__law_moves : FnScope ["dice", "posts", "top", "rows", "a", "row", "b"] ["dice", "posts", "top"] (defScope s__law_moves) := ⟨rfl, rfl, rfl, by decide +kernel, rfl, by decide +kernel, by decide +kernel⟩
abbrev s__law_prices : Stmt := top 35
theorem sc__law_prices : FnScope ["dice", "posts", "top", "row", "post", "item", "keep"] ["dice", "posts", "top"] (defScope s__law_prices) := ⟨rfl, rfl, rfl, by decide +kernel, rfl, by decide +kernel, by decide +kernel⟩
abbrev s__law_requests : Stmt := top 36
theorem sc__law_requests : FnScope ["dice", "names", "posts", "top", "requests", "name"] ["dice", "names", "posts", "top"] (defScope s__law_requests) := ⟨rfl, rfl, rfl, by decide +kernel, rfl, by decide +kernel, by decide +kernel⟩
abbrev s__law_is_integer : Stmt := top 37
theorem sc__law_is_integer : FnScope ["thing"] ["thing"] (defScope s__law_is_integer) := ⟨rfl, rfl, rfl, by decide +kernel, rfl, by decide +kernel, by decide +kernel⟩
abbrev s__law_ways : Stmt := top 38
theorem sc__law_ways : FnScope ["moves", "posts", "ways", "k", "longer", "a", "row", "c", "b"] ["moves"] (defScope s__law_ways) := ⟨rfl, rfl, rfl, by decide +kernel, rfl, by decide +kernel, by decide +kernel⟩
abbrev s__law_row : Stmt := top 39
theorem sc__law_row : FnScope ["dice", "names", "most", "k"] ["dice", "names", "most"] (defScope s__law_row) := ⟨rfl, rfl, rfl, by decide +kernel, rfl, by decide +kernel, by decide +kernel⟩
abbrev s__law_right_floor : Stmt := top 40
theorem sc__law_right_floor : FnScope ["ways", "requests", "row", "thing", "posts", "heights", "height", "post", "k", "prices", "behind", "a", "b"] ["ways", "requests", "row", "thing"] (defScope s__law_right_floor) := ⟨rfl, rfl, rfl, by decide +kernel, rfl, by decide +kernel, by decide +kernel⟩
abbrev s__law_odd : Stmt := top 41
theorem sc__law_odd : FnScope ["dice", "deep", "k", "menu"] ["dice"] (defScope s__law_odd) := ⟨rfl, rfl, rfl, by decide +kernel, rfl, by decide +kernel, by decide +kernel⟩
abbrev s__law_heights : Stmt := top 42
theorem sc__law_heights : FnScope ["ways", "requests", "row", "heights", "name", "prices", "posts", "ahead", "way", "post"] ["ways", "requests", "row"] (defScope s__law_heights) := ⟨rfl, rfl, rfl, by decide +kernel, rfl, by decide +kernel, by decide +kernel⟩
abbrev s__law_lowered : Stmt := top 43
theorem sc__law_lowered : FnScope ["dice", "heights", "lower", "changed", "items", "item"] ["dice", "heights"] (defScope s__law_lowered) := ⟨rfl, rfl, rfl, by decide +kernel, rfl, by decide +kernel, by decide +kernel⟩
abbrev s__law_spoiled : Stmt := top 44
theorem sc__law_spoiled : FnScope ["dice", "heights", "kind", "at", "where", "whole", "items"] ["dice", "heights"] (defScope s__law_spoiled) := ⟨rfl, rfl, rfl, by decide +kernel, rfl, by decide +kernel, by decide +kernel⟩
abbrev s_law : Stmt := top 45
theorem sc_law : FnScope ["script", "dice", "lower", "spoil", "as_list", "posts", "moves", "names", "requests", "row", "ways", "thing", "price", "due", "asked", "told"] ["script"] (defScope s_law) := ⟨rfl, rfl, rfl, by decide +kernel, rfl, by decide +kernel, by decide +kernel⟩
structure Top (K : PySem.W.Frag) (mg : Str → Option Value) where
  b_abs : mg "abs" = none
  b_all : mg "all" = none
  b_any : mg "any" = none
  b_bool : mg "bool" = none
  b_dict : mg "dict" = none
  b_enumerate : mg "enumerate" = none
  b_int : mg "int" = none
  b_isinstance : mg "isinstance" = none
  b_len : mg "len" = none
  b_list : mg "list" = none
  b_max : mg "max" = none
  b_min : mg "min" = none
  b_range : mg "range" = none
  b_reversed : mg "reversed" = none
  b_sorted : mg "sorted" = none
  b_str : mg "str" = none
  b_tuple : mg "tuple" = none
  b_zip : mg "zip" = none
  g_LETTERS : ∃ t, mg "LETTERS" = some (.str "abcdefghijklmnopqrstuvwxyz" t)
  g_MOST_POSTS : ∃ t, mg "MOST_POSTS" = some (.int 6 t)
  g_MOST_PRICE : ∃ t, mg "MOST_PRICE" = some (.int 9 t)
  g_MOST_REQUESTS : ∃ t, mg "MOST_REQUESTS" = some (.int 5 t)
  d_is_integer : DefAt K mg "is_integer" s_is_integer ["thing"]
  d_is_natural : DefAt K mg "is_natural" s_is_natural ["thing"]
  d_is_below : DefAt K mg "is_below" s_is_below ["thing", "many"]
  d_is_row : DefAt K mg "is_row" s_is_row ["thing"]
  d_is_tuple_of : DefAt K mg "is_tuple_of" s_is_tuple_of ["thing", "many"]
  d_is_name : DefAt K mg "is_name" s_is_name ["thing"]
  d_is_known : DefAt K mg "is_known" s_is_known ["thing", "names"]
  d__choices : DefAt K mg "_choices" s__choices ["system", "start", "name", "ahead"]
  d__ceilings : DefAt K mg "_ceilings" s__ceilings ["system", "name", "ahead"]
  d__is_integers : DefAt K mg "_is_integers" s__is_integers ["thing", "many"]
  d_is_floor : DefAt K mg "is_floor" s_is_floor ["system", "row", "price", "thing"]
  d__is_price : DefAt K mg "_is_price" s__is_price ["thing"]
  d_is_moves : DefAt K mg "is_moves" s_is_moves ["thing"]
  d__is_prices : DefAt K mg "_is_prices" s__is_prices ["thing", "posts"]
  d__is_requests : DefAt K mg "_is_requests" s__is_requests ["thing", "posts"]
  d_least_ways : DefAt K mg "least_ways" s_least_ways ["moves"]
  d__law_dice : DefAt K mg "_law_dice" s__law_dice ["script"]
  d__law_draw : DefAt K mg "_law_draw" s__law_draw ["dice", "many"]
  d__law_word : DefAt K mg "_law_word" s__law_word ["dice", "most"]
  d__law_names : DefAt K mg "_law_names" s__law_names ["dice", "many", "most"]
  d__law_moves : DefAt K mg "_law_moves" s__law_moves ["dice", "posts", "top"]
  d__law_prices : DefAt K mg "_law_prices" s__law_prices ["dice", "posts", "top"]
  d__law_requests : DefAt K mg "_law_requests" s__law_requests ["dice", "names", "posts", "top"]
  d__law_is_integer : DefAt K mg "_law_is_integer" s__law_is_integer ["thing"]
  d__law_ways : DefAt K mg "_law_ways" s__law_ways ["moves"]
  d__law_row : DefAt K mg "_law_row" s__law_row ["dice", "names", "most"]
  d__law_right_floor : DefAt K mg "_law_right_floor" s__law_right_floor ["ways", "requests", "row", "thing"]
  d__law_odd : DefAt K mg "_law_odd" s__law_odd ["dice"]
  d__law_heights : DefAt K mg "_law_heights" s__law_heights ["ways", "requests", "row"]
  d__law_lowered : DefAt K mg "_law_lowered" s__law_lowered ["dice", "heights"]
  d__law_spoiled : DefAt K mg "_law_spoiled" s__law_spoiled ["dice", "heights"]
  d_law : DefAt K mg "law" s_law ["script"]
  c_System : Addr
  cl_System : Cls K c_System
  mg_System : mg "System" = some (.ref c_System)
  na_System_moves : NoAttr K c_System "moves"
  na_System_posts : NoAttr K c_System "posts"
  na_System_names : NoAttr K c_System "names"
  na_System_ways : NoAttr K c_System "ways"
  na_System__requests : NoAttr K c_System "_requests"
  i_System : ClsInit K c_System "System.__init__" s_SystemZ_initZ ["self", "moves", "requests"]
  m_System_prices : MethAt K c_System "prices" "System.prices" s_System_prices ["self", "name"]
end Toy

namespace Toy
open PySem PySem.Spec PyProof.Rows L2
local macro_rules | `(tactic| walk_at "hp") => `(tactic| first
  | assumption
  | exact upd_same
  | (refine Eq.trans (upd_ne (by first | assumption | (apply Ne.symm; assumption))) ?_; walk_at "hp"))
local macro_rules | `(tactic| walk_at "side") => `(tactic| first
  | exact .inl ⟨by omega, by omega⟩
  | exact .inr ⟨by omega, by omega⟩
  | exact ⟨by omega, by omega⟩
  | (show _ ≤ _; omega)
  | (show (_ : Int) < _; omega)
  | decide
  | assumption)
local macro_rules | `(tactic| walk_at "r") => `(tactic| first
  | refine ⟨_, rfl, ?_⟩
  | refine ⟨_, _, rfl, rfl, ?_⟩
  | refine ⟨_, _, _, _, rfl, rfl, SqL.of (by walk_at "hp"), rfl, ?_⟩
  | refine ⟨_, _, _, _, rfl, rfl, SqT.of (by walk_at "hp"), rfl, ?_⟩
  | refine ⟨_, _, _, _, rfl, rfl, (by walk_at "hp"), rfl, ?_⟩
  | refine And.intro rfl ?_
  | refine ⟨_, _, rfl, SqT.of (by walk_at "hp"), ?_⟩
  | refine ⟨_, _, rfl, SqL.of (by walk_at "hp"), ?_⟩
  | refine .inl ⟨_, rfl, ?_⟩
  | refine ⟨_, _, rfl, .inl (SqL.of (by walk_at "hp")), ?_⟩
  | refine ⟨_, _, rfl, .inr (SqT.of (by walk_at "hp")), ?_⟩
  | refine ⟨_, _, rfl, .inl ⟨SqL.of (by walk_at "hp"), ?_⟩⟩
  | refine And.intro (.inl ⟨rfl, _, SqL.of (by walk_at "hp")⟩) ?_
  | refine ⟨_, _, _, rfl, rfl, (by walk_at "hp"), ?_⟩
  | refine ⟨_, _, rfl, (by walk_at "hp"), ?_⟩
  | refine And.intro (by walk_at "side") ?_)
local macro_rules | `(tactic| walk_at "rr") => `(tactic| (repeat walk_at "r"))
local macro_rules | `(tactic| walk_at "k") => `(tactic| first
  | refine ite2 (fun _ => ?_) (fun g => absurd rfl g)
  | refine ite2 (fun g => absurd g (by decide)) (fun _ => ?_)
  | refine ite2 (fun _ => ?_) (fun g => absurd (decide_eq_true (by omega)) g)
  | refine ite2 (fun g => absurd (of_decide_eq_true g) (by omega)) (fun _ => ?_)
  | refine ite2 (fun g => (nd_t g (by omega)).elim) (fun _ => ?_)
  | refine ite2 (fun _ => ?_) (fun g => absurd (nd_f g) (by omega)))
local macro_rules | `(tactic| walk_at "rk") => `(tactic| (repeat (first | walk_at "r" | walk_at "k")))
section
variable {P : Program} {w : World} {K : PySem.W.Frag} {mg : Str → Option Value} {base : Heap}
theorem ok__law_dice (T : Top K mg) : Ok P w K mg base 1 "_law_dice" ["script"] (spDice K) := by
  refine ok_of T.d__law_dice sc__law_dice (fun vs H Q E h => ?_) (fun f cdv A outer s H vs Q E hr h => ?_)
  · obtain ⟨a, ns, rfl, _⟩ := h
    rfl
  · obtain ⟨a, ns, rfl, hS, hlen, k⟩ := h
    refine ⟨_, (pss_one (ps_ret (pe_lst (pa_cons (pe_lc (own := [("cell", 1)]) (g := gName 1) rfl sc__law_dice.nd (pi_list (pe_slice sl_list (pv 0) po_none (po_some pe_int))) (blkOk_by (own := [("cell", 1)]) (N := ["script", "cell"]) (sc := defScope s__law_dice) (by decide +kernel)) (fun _ _ _ _ _ => (pg_name (i := 1) sc__law_dice.nd rfl (Or.inl rfl))) (fun _ _ _ _ _ => pts_nil) (fun _ _ _ _ _ => (pe_callB (id := "abs") call_abs (by rfl) T.b_abs (by decide +kernel) (pa_cons (pe_callTy (T := "int") call_int1 (by rfl) T.b_int (by decide +kernel) (pa_cons (pv 1) pa_nil)) pa_nil)))) (pa_cons pe_int (pa_cons pe_int (pa_cons pe_int (pa_cons pe_int pa_nil)))))))), ?_⟩
    refine ⟨_, rfl, _, rfl, a, _, rfl, hS, fun p hp => ⟨p, rfl, ⟨_, SqL.of upd_same⟩, fun D hD => ?_⟩⟩
    have npD : p ≠ D := ne_of_none upd_same hD
    have nD : H D = none := by rw [upd_ne npD.symm] at hD; exact hD
    obtain ⟨ms, hms⟩ : ∃ ms : List Int, cutV (ns.map V.int) none (some 63) = ms.map V.int := ⟨(ns.drop _).take _, by unfold cutV; rw [List.map_take, List.map_drop]⟩
    have hl63 : ms.length ≤ 63 := by
      have := congrArg List.length hms
      rw [List.length_map] at this
      have h2 := cutV_length (ns.map V.int) none (some 63)
      rw [List.length_map] at h2
      omega
    refine lc_list (K := K) (a := p) (xs := ms.map V.int) (fun i H2 => ∃ cells : List Int, H2 D = some (.lst (cells.map V.int)) ∧ cells.length = i ∧ (∀ x ∈ cells, 0 ≤ x) ∧ H2 p = some (.lst (ms.map V.int)) ∧ Same H H2) ?_ ?_ ?_ ?_
    · refine ⟨[], upd_same, rfl, (by simp), ?_, ?_⟩
      · rw [upd_ne npD, upd_same, hms]
      · exact (same_new hp).trans (same_new hD)
    · rintro i H2 hi ⟨cells, e1, e2, e3, e4, e5⟩
      exact SqL.of e4
    · rintro i x H2 hi ⟨cells, e1, e2, e3, e4, e5⟩
      obtain ⟨z, rfl, hz⟩ : ∃ z, x = V.int z ∧ i < ms.length := by
        rw [List.getElem?_map] at hi
        cases e : ms[i]? with
        | none => rw [e] at hi; cases hi
        | some z => rw [e] at hi; exact ⟨z, (Option.some.inj hi).symm, (List.getElem?_eq_some_iff.mp e).1⟩
      refine ⟨rfl, ?_⟩
      refine yesT ?_
      refine ⟨_, rfl, .inl ⟨_, rfl, _, rfl, _, e1, ?_, cells ++ [if z < 0 then -z else z], ?_, ?_, ?_, ?_, ?_⟩⟩
      · rw [List.length_map, e2]; exact small1000 (by omega)
      · rw [upd_same, List.map_append]; rfl
      · rw [List.length_append, e2]; rfl
      · intro x hx
        rcases List.mem_append.mp hx with q | q
        · exact e3 x q
        · rw [List.mem_singleton.mp q]; split <;> omega
      · rw [upd_ne npD]; exact e4
      · intro b o hb
        rw [upd_ne (ne_of_none hb nD)]
        exact e5 b o hb
    · rintro H2 ⟨cells, e1, e2, e3, e4, e5⟩
      refine ⟨(by show 5 ≤ sizeLine; decide), fun d hd => k d D _ (e5.trans (same_new hd)) (e5.free hd) nD ⟨⟨cells, 0, 0, 1, 0, upd_same, ?_, e3, by omega, by omega, by omega, by omega, by omega⟩⟩⟩
      rw [upd_ne (ne_of_none e1 hd)]
      exact e1
theorem ok__law_draw (T : Top K mg) : Ok P w K mg base 1 "_law_draw" ["dice", "many"] spDraw := by
  refine ok_of T.d__law_draw sc__law_draw (fun vs H Q E h => ?_) (fun f cdv A outer s H vs Q E hr h => ?_)
  · obtain ⟨d, c, n, rfl, _⟩ := h
    rfl
  · obtain ⟨d, c, n, rfl, D, hn, hn2, k⟩ := h
    refine ⟨_, (C8.pss_cut (ps_if (PW.pt (pw_and (pt_cmpR op_eq (pe_ix ix_list (pv 0) pe_int (fun _ _ => rfl)) pe_int (nomark _)) (pw_and1 (pt_cmpR op_lt (pe_ix ix_list (pv 0) pe_int (fun _ _ => rfl)) (pe_callB (id := "len") call_len_seq (by rfl) T.b_len (by decide +kernel) (pa_cons (pe_ix ix_list (pv 0) pe_int (fun _ _ => rfl)) pa_nil)) (nomark _)))))
      (pss_cons (ps_set (i := 2) sc__law_draw.nd rfl (Or.inl rfl) (pe_ix ix_list (pe_ix ix_list (pv 0) pe_int (fun _ _ => rfl)) (pe_ix ix_list (pv 0) pe_int (fun _ _ => rfl)) (fun _ _ => rfl)))
      (pss_cons (ps_asg (pe_op op_add (pe_ix ix_list (pv 0) pe_int (fun _ _ => rfl)) pe_int) (pg_sub (pv 0) pe_int set_list))
      (pss_one (ps_if (pt_cmpR op_ge (pv 2) (pe_op op_pow pe_int pe_int) (nomark _))
      (pss_one (ps_asg (pv 2) (pg_sub (pv 0) pe_int set_list)))
      (pss_one (ps_asg (pe_op op_mod (pe_callTy (T := "int") call_int1 (by rfl) T.b_int (by decide +kernel) (pa_cons (pe_op op_add (pe_op op_add (pe_op op_mul (pe_ix ix_list (pv 0) pe_int (fun _ _ => rfl)) pe_int) (pe_op op_mul (pv 2) pe_int)) (pe_ix ix_list (pv 0) pe_int (fun _ _ => rfl))) pa_nil)) pe_int) (pg_sub (pv 0) pe_int set_list)))))))
      pss_nil)
      (C8.pss_cut (ps_if (pt_cmpR op_gt (pe_ix ix_list (pv 0) pe_int (fun _ _ => rfl)) pe_int (nomark _))
      (pss_cons (ps_set (i := 3) sc__law_draw.nd rfl (Or.inl rfl) (pe_op op_mod (pe_callTy (T := "int") call_int1 (by rfl) T.b_int (by decide +kernel) (pa_cons (pe_ix ix_list (pv 0) pe_int (fun _ _ => rfl)) pa_nil)) (pv 1)))
      (pss_cons (ps_asg (pe_op op_fdivW (pe_ix ix_list (pv 0) pe_int (fun _ _ => rfl)) (pv 1)) (pg_sub (pv 0) pe_int set_list))
      (pss_one (ps_ret (pv 3)))))
      pss_nil)
      (pss_cons (ps_asg (pe_op op_add (pe_ix ix_list (pv 0) pe_int (fun _ _ => rfl)) pe_int) (pg_sub (pv 0) pe_int set_list))
      (pss_cons (ps_asg (pe_op op_mod (pe_callTy (T := "int") call_int1 (by rfl) T.b_int (by decide +kernel) (pa_cons (pe_op op_add (pe_op op_add (pe_op op_mul (pe_ix ix_list (pv 0) pe_int (fun _ _ => rfl)) pe_int) (pe_op op_mul (pe_ix ix_list (pv 0) pe_int (fun _ _ => rfl)) pe_int)) pe_int) pa_nil)) pe_int) (pg_sub (pv 0) pe_int set_list))
      (pss_cons (ps_set (i := 4) sc__law_draw.nd rfl (Or.inl rfl) (pe_op op_mod (pe_callTy (T := "int") call_int1 (by rfl) T.b_int (by decide +kernel) (pa_cons (pe_op op_mul (pe_ix ix_list (pv 0) pe_int (fun _ _ => rfl)) (pe_op op_add (pe_op op_fdiv (pe_ix ix_list (pv 0) pe_int (fun _ _ => rfl)) pe_int) pe_int)) pa_nil)) pe_int))
      (pss_cons (ps_set (i := 4) sc__law_draw.nd rfl (Or.inl rfl) (pe_op op_mod (pe_callTy (T := "int") call_int1 (by rfl) T.b_int (by decide +kernel) (pa_cons (pe_op op_mul (pv 4) (pe_op op_add (pe_op op_fdiv (pv 4) pe_int) pe_int)) pa_nil)) pe_int))
      (pss_one (ps_ret (pe_op op_mod (pe_callTy (T := "int") call_int1 (by rfl) T.b_int (by decide +kernel) (pa_cons (pe_op op_fdiv (pv 4) pe_int) pa_nil)) (pv 1)))))))))), ?_⟩
    refine ⟨fun σ' H' => ∃ o, σ' = [some (.ref d), some (.int n), o, none, none] ∧ Keep d H H' ∧ Dice c H' d, ?_, ?_⟩
    · obtain ⟨cells, i, b, s', t, hd, hc, h0, h1, h2, h3, h4, h5⟩ := D.ex
      have ncd : c ≠ d := by
        intro z; subst z; rw [hd] at hc; injection hc with hc; injection hc with hc; cases cells <;> simp at hc
      walk_at "rr"
      refine ite2 (fun g => ?_) (fun g => ?_)
      · walk_at "rr"
        refine ite2 (fun g2 => ?_) (fun g2 => ?_)
        · have g2 := of_decide_eq_true g2
          rw [List.length_map] at g2
          obtain ⟨z, hz⟩ : ∃ z, cells[i.toNat]? = some z := ⟨_, List.getElem?_eq_getElem (by omega)⟩
          have hz0 := h0 z (List.mem_of_getElem? hz)
          have hat : atI (cells.map V.int) i = some (.int z) := by
            have := atI_nat (xs := cells.map V.int) (j := i.toNat) (v := .int z) (by rw [List.getElem?_map, hz]; rfl)
            rw [Int.toNat_of_nonneg h1] at this
            exact this
          refine ⟨_, rfl, _, _, _, _, rfl, rfl, SqL.of hd, rfl, _, rfl, d, _, _, _, rfl, rfl, SqL.of hd, rfl, c, _, i, .int z, rfl, rfl, SqL.of hc, hat, ?_⟩
          walk_at "rr"
          refine ite2 (fun g3 => ?_) (fun g3 => ?_)
          · walk_at "rr"
            rw [upd_upd]
            exact ⟨Keep.upd, ⟨cells, i + 1, z, s', t, upd_same, (upd_ne ncd).trans hc, h0, by omega, hz0, h3, h4, h5⟩⟩
          · walk_at "rr"
            rw [upd_upd]
            exact ⟨Keep.upd, ⟨cells, i + 1, b, (s' * 69621 + z * 40692 + (i + 1)) % 2147483647, t, upd_same, (upd_ne ncd).trans hc, h0, by omega, h2, by omega, by omega, h5⟩⟩
        · exact ⟨none, rfl, Keep.refl _ _, D⟩
      · exact ⟨none, rfl, Keep.refl _ _, D⟩
    · rintro σ' H1 ⟨o, rfl, kp, D1⟩
      obtain ⟨cells, i, b, s', t, hd, hc, h0, h1, h2, h3, h4, h5⟩ := D1.ex
      have ncd : c ≠ d := by
        intro z; subst z; rw [hd] at hc; injection hc with hc; injection hc with hc; cases cells <;> simp at hc
      refine ⟨fun σ' H' => σ' = [some (.ref d), some (.int n), o, none, none] ∧ H' = H1, ?_, ?_⟩
      · walk_at "rr"
        refine ite2 (fun g => ?_) (fun g => ?_)
        · have g := of_decide_eq_true g
          walk_at "rr"
          refine ⟨wide_div hn hn2 (by decide) (by decide), ?_⟩
          walk_at "rr"
          exact k _ _ (Int.emod_nonneg _ (by omega)) (Int.emod_lt_of_pos _ hn) (kp.trans Keep.upd) ⟨cells, i, b / n, s', t, upd_same, (upd_ne ncd).trans hc, h0, h1, Int.ediv_nonneg h2 (by omega), h3, h4, h5⟩
        · exact ⟨rfl, rfl⟩
      · rintro _ _ ⟨rfl, rfl⟩
        walk_at "rr"
        rw [upd_upd]
        exact k _ _ (Int.emod_nonneg _ (by omega)) (Int.emod_lt_of_pos _ hn) (kp.trans Keep.upd) ⟨cells, i, b, (s' * 48271 + (t + 1) * 7919 + 1) % 2147483647, t + 1, upd_same, (upd_ne ncd).trans hc, h0, h1, h2, by omega, by omega, by omega⟩
end
end Toy

namespace Toy
open PySem PySem.Spec PyProof.Rows L2
local macro_rules | `(tactic| walk_at "hp") => `(tactic| first
  | assumption
  | exact upd_same
  | (refine Eq.trans (upd_ne (by first | assumption | (apply Ne.symm; assumption))) ?_; walk_at "hp"))
local macro_rules | `(tactic| walk_at "side") => `(tactic| first
  | exact .inl ⟨by omega, by omega⟩
  | exact .inr ⟨by omega, by omega⟩
  | exact ⟨by omega, by omega⟩
  | (show _ ≤ _; omega)
  | (show (_ : Int) < _; omega)
  | decide
  | assumption)
local macro_rules | `(tactic| walk_at "r") => `(tactic| first
  | refine ⟨_, rfl, ?_⟩
  | refine ⟨_, _, rfl, rfl, ?_⟩
  | refine ⟨_, _, _, _, rfl, rfl, SqL.of (by walk_at "hp"), rfl, ?_⟩
  | refine ⟨_, _, _, _, rfl, rfl, SqT.of (by walk_at "hp"), rfl, ?_⟩
  | refine ⟨_, _, _, _, rfl, rfl, (by walk_at "hp"), rfl, ?_⟩
  | refine And.intro rfl ?_
  | refine ⟨_, _, rfl, SqT.of (by walk_at "hp"), ?_⟩
  | refine ⟨_, _, rfl, SqL.of (by walk_at "hp"), ?_⟩
  | refine .inl ⟨_, rfl, ?_⟩
  | refine ⟨_, _, rfl, .inl (SqL.of (by walk_at "hp")), ?_⟩
  | refine ⟨_, _, rfl, .inr (SqT.of (by walk_at "hp")), ?_⟩
  | refine ⟨_, _, rfl, .inl ⟨SqL.of (by walk_at "hp"), ?_⟩⟩
  | refine And.intro (.inl ⟨rfl, _, SqL.of (by walk_at "hp")⟩) ?_
  | refine ⟨_, _, _, rfl, rfl, (by walk_at "hp"), ?_⟩
  | refine ⟨_, _, rfl, (by walk_at "hp"), ?_⟩
  | refine And.intro (by walk_at "side") ?_)
local macro_rules | `(tactic| walk_at "rr") => `(tactic| (repeat walk_at "r"))
local macro_rules | `(tactic| walk_at "k") => `(tactic| first
  | refine ite2 (fun _ => ?_) (fun g => absurd rfl g)
  | refine ite2 (fun g => absurd g (by decide)) (fun _ => ?_)
  | refine ite2 (fun _ => ?_) (fun g => absurd (decide_eq_true (by omega)) g)
  | refine ite2 (fun g => absurd (of_decide_eq_true g) (by omega)) (fun _ => ?_)
  | refine ite2 (fun g => (nd_t g (by omega)).elim) (fun _ => ?_)
  | refine ite2 (fun _ => ?_) (fun g => absurd (nd_f g) (by omega)))
local macro_rules | `(tactic| walk_at "rk") => `(tactic| (repeat (first | walk_at "r" | walk_at "k")))
section
variable {P : Program} {w : World} {K : PySem.W.Frag} {mg : Str → Option Value} {base : Heap}
theorem ok__law_word (T : Top K mg) : Ok P w K mg base 2 "_law_word" ["dice", "most"] spWord := by
  refine ok_of T.d__law_word sc__law_word (fun vs H Q E h => ?_) (fun f cdv A outer s H vs Q E hr h => ?_)
  · obtain ⟨d, c, n, rfl, _⟩ := h
    rfl
  · obtain ⟨d, c, n, rfl, D, hn, hn2, k⟩ := h
    obtain ⟨f__law_draw, fd__law_draw, m__law_draw, k__law_draw, b__law_draw, G__law_draw⟩ := ok__law_draw (P := P) (w := w) (base := base) T
    have hr__law_draw : Room 1 _ := hr.mono (by decide)
    refine ⟨_, (pss_cons (ps_set (i := 2) sc__law_word.nd rfl (Or.inl rfl) pe_str)
      (pss_cons (ps_set (i := 3) sc__law_word.nd rfl (Or.inl rfl) pe_str)
      (pss_cons (ps_for PassesOwn.never rfl (pi_range1 (by rfl) T.b_range (pa_cons (pe_op op_add pe_int (pe_call G__law_draw hr__law_draw rfl m__law_draw k__law_draw b__law_draw .nil pass0 (pa_cons (pv 0) (pa_cons (pv 1) pa_nil)))) pa_nil)) (pg_name (i := 4) sc__law_word.nd rfl (Or.inl rfl))
      (pss_one (ps_set (i := 3) sc__law_word.nd rfl (Or.inl rfl) (pe_op op_add_str (pv 3) (pe_item_str (pv 2) (pe_call G__law_draw hr__law_draw rfl m__law_draw k__law_draw b__law_draw .nil pass0 (pa_cons (pv 0) (pa_cons pe_int pa_nil))) (fun _ _ => rfl))))))
      (pss_one (ps_ret (pv 3)))))), ?_⟩
    walk_at "rr"
    refine ⟨_, _, _, rfl, D, hn, by omega, fun v H1 v0 v1 k1 D1 => ?_⟩
    walk_at "rr"
    refine for_range (lo := 0) (n := (1 + v).toNat) (fun i σ' H2 => ∃ (z : Str) (o : Option V), σ' = [some (.ref d), some (.int n), some (.str abc), some (.str z), o] ∧ Keep d H H2 ∧ Dice c H2 d ∧ z.length = i ∧ Low z)
      ⟨_, none, rfl, k1, D1, (by decide +kernel), ⟨by decide +kernel⟩⟩ ?_ ?_
    · rintro i σ' H2 hi ⟨z, o, rfl, k2, D2, hz, hl⟩
      walk_at "rr"
      refine ⟨_, _, _, rfl, D2, by decide, by decide, fun u H3 u0 u1 k3 D3 => ?_⟩
      obtain ⟨ch, hc, c1, c2⟩ := abc_at u.toNat (by omega)
      refine ⟨_, _, ch, rfl, rfl, by omega, by omega, by rw [abc_len]; omega, hc, ?_⟩
      refine ⟨_, _, rfl, rfl, Nat.le_of_lt (small1000 (by rw [hz]; show i + 1 ≤ 1000; omega)), ?_⟩
      exact ⟨_, _, rfl, k2.trans k3, D3, by rw [len_app, hz], hl.app c1 c2⟩
    · rintro σ' H2 ⟨z, o, rfl, k2, D2, hz, hl⟩
      walk_at "rr"
      exact k _ _ ⟨by omega, by omega, hl⟩ k2 D2
end
end Toy

namespace Toy
open PySem PySem.Spec PyProof.Rows L2
local macro_rules | `(tactic| walk_at "hp") => `(tactic| first
  | assumption
  | exact upd_same
  | (refine Eq.trans (upd_ne (by first | assumption | (apply Ne.symm; assumption))) ?_; walk_at "hp"))
local macro_rules | `(tactic| walk_at "side") => `(tactic| first
  | exact .inl ⟨by omega, by omega⟩
  | exact .inr ⟨by omega, by omega⟩
  | exact ⟨by omega, by omega⟩
  | (show _ ≤ _; omega)
  | (show (_ : Int) < _; omega)
  | decide
  | assumption)
local macro_rules | `(tactic| walk_at "r") => `(tactic| first
  | refine ⟨_, rfl, ?_⟩
  | refine ⟨_, _, rfl, rfl, ?_⟩
  | refine ⟨_, _, _, _, rfl, rfl, SqL.of (by walk_at "hp"), rfl, ?_⟩
  | refine ⟨_, _, _, _, rfl, rfl, SqT.of (by walk_at "hp"), rfl, ?_⟩
  | refine ⟨_, _, _, _, rfl, rfl, (by walk_at "hp"), rfl, ?_⟩
  | refine And.intro rfl ?_
  | refine ⟨_, _, rfl, SqT.of (by walk_at "hp"), ?_⟩
  | refine ⟨_, _, rfl, SqL.of (by walk_at "hp"), ?_⟩
  | refine .inl ⟨_, rfl, ?_⟩
  | refine ⟨_, _, rfl, .inl (SqL.of (by walk_at "hp")), ?_⟩
  | refine ⟨_, _, rfl, .inr (SqT.of (by walk_at "hp")), ?_⟩
  | refine ⟨_, _, rfl, .inl ⟨SqL.of (by walk_at "hp"), ?_⟩⟩
  | refine And.intro (.inl ⟨rfl, _, SqL.of (by walk_at "hp")⟩) ?_
  | refine ⟨_, _, _, rfl, rfl, (by walk_at "hp"), ?_⟩
  | refine ⟨_, _, rfl, (by walk_at "hp"), ?_⟩
  | refine And.intro (by walk_at "side") ?_)
local macro_rules | `(tactic| walk_at "rr") => `(tactic| (repeat walk_at "r"))
local macro_rules | `(tactic| walk_at "k") => `(tactic| first
  | refine ite2 (fun _ => ?_) (fun g => absurd rfl g)
  | refine ite2 (fun g => absurd g (by decide)) (fun _ => ?_)
  | refine ite2 (fun _ => ?_) (fun g => absurd (decide_eq_true (by omega)) g)
  | refine ite2 (fun g => absurd (of_decide_eq_true g) (by omega)) (fun _ => ?_)
  | refine ite2 (fun g => (nd_t g (by omega)).elim) (fun _ => ?_)
  | refine ite2 (fun _ => ?_) (fun g => absurd (nd_f g) (by omega)))
local macro_rules | `(tactic| walk_at "rk") => `(tactic| (repeat (first | walk_at "r" | walk_at "k")))
section
variable {P : Program} {w : World} {K : PySem.W.Frag} {mg : Str → Option Value} {base : Heap}
theorem ok__law_names (T : Top K mg) : Ok P w K mg base 3 "_law_names" ["dice", "many", "most"] spNames := by
  refine ok_of T.d__law_names sc__law_names (fun vs H Q E h => ?_) (fun f cdv A outer s H vs Q E hr h => ?_)
  · obtain ⟨d, c, n, m, rfl, _⟩ := h
    rfl
  · obtain ⟨d, c, n, m, rfl, D, hn, hn2, hm, hm2, k⟩ := h
    obtain ⟨f__law_word, fd__law_word, m__law_word, k__law_word, b__law_word, G__law_word⟩ := ok__law_word (P := P) (w := w) (base := base) T
    have hr__law_word : Room 2 _ := hr.mono (by decide)
    refine ⟨_, (pss_cons (ps_set (i := 3) sc__law_names.nd rfl (Or.inl rfl) (pe_lst pa_nil))
      (pss_cons (ps_for PassesOwn.never rfl (pi_range1 (by rfl) T.b_range (pa_cons (pv 1) pa_nil)) (pg_name (i := 4) sc__law_names.nd rfl (Or.inl rfl))
      (pss_cons (ps_set (i := 5) sc__law_names.nd rfl (Or.inl rfl) (pe_call G__law_word hr__law_word rfl m__law_word k__law_word b__law_word .nil pass0 (pa_cons (pv 0) (pa_cons (pv 2) pa_nil))))
      (pss_one (ps_if (pt_cmpR op_notIn_seq (pv 5) (pv 3) rfl)
      (pss_one (ps_expr (pe_bm PySem.F.plainAttrs_list PySem.F.slot_list_append PySem.F.type_list_append mt_append (pv 3) (pa_cons (pv 5) pa_nil))))
      pss_nil))))
      (pss_one (ps_ret (pv 3))))), ?_⟩
    refine ⟨(by show 0 ≤ sizeLine; decide), fun l nl => ?_⟩
    have nld := D.ne nl
    have nlc := D.nc nl
    walk_at "rr"
    refine for_range (lo := 0) (n := n.toNat) (fun i σ' H2 => ∃ (zs : List Str) (o o' : Option V), σ' = [some (.ref d), some (.int n), some (.int m), some (.ref l), o, o'] ∧ H2 l = some (.lst (zs.map V.str)) ∧ zs.Nodup ∧ (1 ≤ i → 1 ≤ zs.length) ∧ zs.length ≤ i ∧ (∀ z ∈ zs, Name m z) ∧ Keep d H H2 ∧ Dice c H2 d)
      ⟨[], none, none, rfl, upd_same, .nil, by omega, Nat.le_refl _, (by simp), same_keep (same_new nl), D.upd nld nlc⟩ ?_ ?_
    · rintro i σ' H2 hi ⟨zs, o, o', rfl, hl, nd, h1, h2, hN, k2, D2⟩
      walk_at "rr"
      refine ⟨_, _, _, rfl, D2, hm, hm2, fun z H3 hz k3 D3 => ?_⟩
      have hl3 := k3 _ _ nld hl
      walk_at "rr"
      refine ⟨flat_str _, ?_⟩
      walk_at "rr"
      refine ite2 (fun g => ?_) (fun g => ?_)
      · have g : ¬ z ∈ zs := by
          have g : (!inV (.str z) (zs.map V.str)) = true := g
          rw [inV_str] at g
          simpa using g
        walk_at "rr"
        refine ⟨(by rw [List.length_map]; exact small1000 (by omega)), zs ++ [z], _, _, rfl, ?_, ?_, ?_, ?_, ?_, (k2.trans k3).mut nl, D3.upd nld nlc⟩
        · rw [upd_same, List.map_append]; rfl
        · exact nd_snoc nd g
        · intro _; rw [List.length_append]; exact Nat.le_add_left _ _
        · rw [List.length_append]; exact Nat.add_le_add_right h2 1
        · intro y hy
          rcases List.mem_append.mp hy with q | q
          · exact hN y q
          · rw [List.mem_singleton.mp q]; exact hz
      · have g : z ∈ zs := by
          have g : ¬ (!inV (.str z) (zs.map V.str)) = true := g
          rw [inV_str] at g
          simpa using g
        exact ⟨zs, _, _, rfl, hl3, nd, fun _ => List.length_pos_of_mem g, by omega, hN, k2.trans k3, D3⟩
    · rintro σ' H2 ⟨zs, o, o', rfl, hl, nd, h1, h2, hN, k2, D2⟩
      walk_at "rr"
      exact k l zs H2 nl hl nd (h1 (by omega)) (by omega) hN k2 D2
end
end Toy

namespace Toy
open PySem PySem.Spec PyProof.Rows L2
local macro_rules | `(tactic| walk_at "hp") => `(tactic| first
  | assumption
  | exact upd_same
  | (refine Eq.trans (upd_ne (by first | assumption | (apply Ne.symm; assumption))) ?_; walk_at "hp"))
local macro_rules | `(tactic| walk_at "side") => `(tactic| first
  | exact .inl ⟨by omega, by omega⟩
  | exact .inr ⟨by omega, by omega⟩
  | exact ⟨by omega, by omega⟩
  | (show _ ≤ _; omega)
  | (show (_ : Int) < _; omega)
  | decide
  | assumption)
local macro_rules | `(tactic| walk_at "r") => `(tactic| first
  | refine ⟨_, rfl, ?_⟩
  | refine ⟨_, _, rfl, rfl, ?_⟩
  | refine ⟨_, _, _, _, rfl, rfl, SqL.of (by walk_at "hp"), rfl, ?_⟩
  | refine ⟨_, _, _, _, rfl, rfl, SqT.of (by walk_at "hp"), rfl, ?_⟩
  | refine ⟨_, _, _, _, rfl, rfl, (by walk_at "hp"), rfl, ?_⟩
  | refine And.intro rfl ?_
  | refine ⟨_, _, rfl, SqT.of (by walk_at "hp"), ?_⟩
  | refine ⟨_, _, rfl, SqL.of (by walk_at "hp"), ?_⟩
  | refine .inl ⟨_, rfl, ?_⟩
  | refine ⟨_, _, rfl, .inl (SqL.of (by walk_at "hp")), ?_⟩
  | refine ⟨_, _, rfl, .inr (SqT.of (by walk_at "hp")), ?_⟩
  | refine ⟨_, _, rfl, .inl ⟨SqL.of (by walk_at "hp"), ?_⟩⟩
  | refine And.intro (.inl ⟨rfl, _, SqL.of (by walk_at "hp")⟩) ?_
  | refine ⟨_, _, _, rfl, rfl, (by walk_at "hp"), ?_⟩
  | refine ⟨_, _, rfl, (by walk_at "hp"), ?_⟩
  | refine And.intro (by walk_at "side") ?_)
local macro_rules | `(tactic| walk_at "rr") => `(tactic| (repeat walk_at "r"))
local macro_rules | `(tactic| walk_at "k") => `(tactic| first
  | refine ite2 (fun _ => ?_) (fun g => absurd rfl g)
  | refine ite2 (fun g => absurd g (by decide)) (fun _ => ?_)
  | refine ite2 (fun _ => ?_) (fun g => absurd (decide_eq_true (by omega)) g)
  | refine ite2 (fun g => absurd (of_decide_eq_true g) (by omega)) (fun _ => ?_)
  | refine ite2 (fun g => (nd_t g (by omega)).elim) (fun _ => ?_)
  | refine ite2 (fun _ => ?_) (fun g => absurd (nd_f g) (by omega)))
local macro_rules | `(tactic| walk_at "rk") => `(tactic| (repeat (first | walk_at "r" | walk_at "k")))
section
variable {P : Program} {w : World} {K : PySem.W.Frag} {mg : Str → Option Value} {base : Heap}
theorem ok__law_moves (T : Top K mg) : Ok P w K mg base 2 "_law_moves" ["dice", "posts", "top"] spMoves := by
  refine ok_of T.d__law_moves sc__law_moves (fun vs H Q E h => ?_) (fun f cdv A outer s H vs Q E hr h => ?_)
  · obtain ⟨d, c, n, top, rfl, _⟩ := h
    rfl
  · obtain ⟨d, c, n, top, rfl, D, hn, hn2, ht, ht2, k⟩ := h
    obtain ⟨f__law_draw, fd__law_draw, m__law_draw, k__law_draw, b__law_draw, G__law_draw⟩ := ok__law_draw (P := P) (w := w) (base := base) T
    have hr__law_draw : Room 1 _ := hr.mono (by decide)
    refine ⟨_, (pss_cons (ps_set (i := 3) sc__law_moves.nd rfl (Or.inl rfl) (pe_lst pa_nil))
      (pss_cons (ps_for PassesOwn.never rfl (pi_range1 (by rfl) T.b_range (pa_cons (pv 1) pa_nil)) (pg_name (i := 4) sc__law_moves.nd rfl (Or.inl rfl))
      (pss_cons (ps_setLc (i := 5) (own := [("b", 6)]) (g := gName 6) rfl sc__law_moves.nd rfl rfl (sw_true rfl rfl rfl (by decide +kernel)) (pi_range1 (by rfl) T.b_range (pa_cons (pv 1) pa_nil)) (blkOk_by (own := [("b", 6)]) (N := ["dice", "posts", "top", "rows", "a", "row", "b"]) (sc := defScope s__law_moves) (by decide +kernel)) (fun _ _ _ _ _ => (pg_name (i := 6) sc__law_moves.nd rfl (Or.inl rfl))) (fun _ _ _ _ _ => pts_nil) (fun _ _ _ _ _ => (pe_call G__law_draw hr__law_draw rfl m__law_draw k__law_draw b__law_draw .nil pass0 (pa_cons (pv 0) (pa_cons (pe_op op_add (pv 2) pe_int) pa_nil)))))
      (pss_cons (ps_asg pe_int (pg_sub (pv 5) (pv 4) set_list))
      (pss_one (ps_expr (pe_bm PySem.F.plainAttrs_list PySem.F.slot_list_append PySem.F.type_list_append mt_append (pv 3) (pa_cons (pe_callTy (T := "tuple") call_tuple_of (by rfl) T.b_tuple (by decide +kernel) (pa_cons (pv 5) pa_nil)) pa_nil)))))))
      (pss_one (ps_ret (pe_callTy (T := "tuple") call_tuple_of (by rfl) T.b_tuple (by decide +kernel) (pa_cons (pv 3) pa_nil)))))), ?_⟩
    refine ⟨(by show 0 ≤ sizeLine; decide), fun l nl => ?_⟩
    have nld := D.ne nl
    have nlc := D.nc nl
    walk_at "rr"
    refine for_range (lo := 0) (n := n.toNat) (fun i σ' H2 => ∃ (as : List V) (rows : List (List Int)) (o o' : Option V), σ' = [some (.ref d), some (.int n), some (.int top), some (.ref l), o, o', none] ∧ H2 l = some (.lst as) ∧ Paired (IntT H2) as rows ∧ rows.length = i ∧
        (∀ r ∈ rows, (r.length : Int) = n ∧ ∀ x ∈ r, 0 ≤ x ∧ x ≤ top) ∧ (∀ (j : Nat) r, rows[j]? = some r → r[j]? = some 0) ∧ Keep d H H2 ∧ Dice c H2 d)
      ⟨[], [], none, none, rfl, upd_same, .nil, rfl, (by simp), (by simp), same_keep (same_new nl), D.upd nld nlc⟩ ?_ ?_
    · rintro i σ' H2 hi ⟨as, rows, o, o', rfl, hl, hp, e1, e2, e3, k2, D2⟩
      walk_at "rr"
      intro L nL
      have nLd := D2.ne nL
      have nLc := D2.nc nL
      have nLl : l ≠ L := ne_of_none hl nL
      refine lc_range (lo := 0) (n := n.toNat) (fun j H3 => ∃ xs : List Int, H3 L = some (.lst (xs.map V.int)) ∧ xs.length = j ∧ (∀ x ∈ xs, 0 ≤ x ∧ x ≤ top) ∧ Keep d H2 H3 ∧ Dice c H3 d)
        ⟨[], upd_same, rfl, (by simp), same_keep (same_new nL), D2.upd nLd nLc⟩ ?_ ?_
      · rintro j H3 hj ⟨xs, hL, f1, f2, k3, D3⟩
        refine ⟨rfl, ?_⟩
        refine yesT ?_
        walk_at "rr"
        refine ⟨_, c, _, rfl, D3, by omega, by omega, fun v H4 v0 v1 k4 D4 => ?_⟩
        refine ⟨_, k4 _ _ nLd hL, ?_, xs ++ [v], ?_, ?_, ?_, (k3.trans k4).mut nL, D4.upd nLd nLc⟩
        · rw [List.length_map]; exact small1000 (by omega)
        · rw [upd_same, List.map_append]; rfl
        · rw [List.length_append, f1]; rfl
        · intro x hx
          rcases List.mem_append.mp hx with q | q
          · exact f2 x q
          · rw [List.mem_singleton.mp q]; omega
      · rintro H3 ⟨xs, hL, f1, f2, k3, D3⟩
        have hi2 : i < n.toNat := hi
        refine ⟨_, rfl, _, rfl, L, _, _, i, rfl, rfl, hL, ?_, ?_⟩
        · unfold ixN
          rw [List.length_map, if_pos (by omega), if_pos (by omega)]
          congr 1
          omega
        have hl3 : H3 l = some (.lst as) := k3 _ _ nld hl
        walk_at "rr"
        intro t nt
        have nt3 : H3 t = none := by
          by_cases e : t = L
          · subst e; rw [upd_same] at nt; cases nt
          · rw [upd_ne e] at nt; exact nt
        have ntl : t ≠ l := ne_of_none hl3 nt3 |>.symm
        have ntd := D3.ne nt3
        have ntc := D3.nc nt3
        have ntL : t ≠ L := ne_of_none hL nt3 |>.symm
        walk_at "rr"
        refine ⟨Nat.lt_of_le_of_lt (Nat.le_of_eq ?_) (small1000 (n := i) (by omega)), as ++ [.ref t], rows ++ [xs.set i 0], _, _, rfl, upd_same, ?_, ?_, ?_, ?_, ?_, ?_⟩
        · rw [prd_len hp, e1]
        · refine Paired.snoc (prd_imp hp fun x y r => IntT.firm H2 _ x y (fun a xs' e => ?_) r) ⟨t, rfl, ?_⟩
          · have e4 : H3 a = some (.tup xs') := k3.tup D2 e
            rw [upd_ne (ne_of e4 hl3 (by intro z; cases z)), upd_ne (ne_of_none e4 nt3), upd_ne (ne_of e4 hL (by intro z; cases z))]
            exact e4
          · rw [upd_ne ntl, upd_same, List.map_set]
        · rw [List.length_append, e1]; rfl
        · intro r hr
          rcases List.mem_append.mp hr with q | q
          · exact e2 r q
          · rw [List.mem_singleton.mp q, List.length_set, f1]
            refine ⟨by omega, fun x hx => ?_⟩
            rcases List.mem_or_eq_of_mem_set hx with q | q
            · exact f2 x q
            · rw [q]; omega
        · intro j r hj
          by_cases e : j < rows.length
          · rw [List.getElem?_append_left e] at hj
            exact e3 j r hj
          · have e5 : j = rows.length := by
              have := (List.getElem?_eq_some_iff.mp hj).1
              rw [List.length_append] at this
              simp at this
              omega
            subst e5
            rw [List.getElem?_append_right (Nat.le_refl _), Nat.sub_self] at hj
            have hj : xs.set i 0 = r := Option.some.inj hj
            rw [← hj, e1, List.getElem?_set_self (by omega)]
        · refine Keep.mut (Keep.mut (Keep.mut (k2.trans k3) (k2.free nLd nL)) (k2.free ntd (k3.free ntd nt3))) nl
        · exact ((D3.upd nLd nLc).upd ntd ntc).upd nld nlc
    · rintro σ' H2 ⟨as, rows, o, o', rfl, hl, hp, e1, e2, e3, k2, D2⟩
      walk_at "rr"
      intro t nt
      walk_at "rr"
      refine k _ rows _ ⟨t, _, rfl, upd_same, prd_imp hp fun x y r => IntT.firm H2 _ x y (same_tups (same_new nt)) r⟩ ⟨by omega, e2, e3⟩ (k2.mut (k2.free (D2.ne nt) nt)) (D2.upd (D2.ne nt) (D2.nc nt))
theorem ok__law_prices (T : Top K mg) : Ok P w K mg base 2 "_law_prices" ["dice", "posts", "top"] spPrices := by
  refine ok_of T.d__law_prices sc__law_prices (fun vs H Q E h => ?_) (fun f cdv A outer s H vs Q E hr h => ?_)
  · obtain ⟨d, c, n, top, rfl, _⟩ := h
    rfl
  · obtain ⟨d, c, n, top, rfl, D, hn, hn2, ht, ht2, k⟩ := h
    obtain ⟨f__law_draw, fd__law_draw, m__law_draw, k__law_draw, b__law_draw, G__law_draw⟩ := ok__law_draw (P := P) (w := w) (base := base) T
    have hr__law_draw : Room 1 _ := hr.mono (by decide)
    refine ⟨_, (pss_cons (ps_set (i := 3) sc__law_prices.nd rfl (Or.inl rfl) (pe_lst pa_nil))
      (pss_cons (ps_for PassesOwn.never rfl (pi_range1 (by rfl) T.b_range (pa_cons (pv 1) pa_nil)) (pg_name (i := 4) sc__law_prices.nd rfl (Or.inl rfl))
      (pss_cons (ps_set (i := 5) sc__law_prices.nd rfl (Or.inl rfl) (pe_call G__law_draw hr__law_draw rfl m__law_draw k__law_draw b__law_draw .nil pass0 (pa_cons (pv 0) (pa_cons (pe_op op_add (pv 2) pe_int) pa_nil))))
      (C8.pss_cut (ps_if (pt_cmpR op_gt (pv 5) (pv 2) (nomark _))
      (pss_one (ps_set (i := 5) sc__law_prices.nd rfl (Or.inl rfl) pe_non))
      pss_nil)
      (pss_one (ps_expr (pe_bm PySem.F.plainAttrs_list PySem.F.slot_list_append PySem.F.type_list_append mt_append (pv 3) (pa_cons (pv 5) pa_nil)))))))
      (pss_cons (ps_set (i := 6) sc__law_prices.nd rfl (Or.inl rfl) (pe_call G__law_draw hr__law_draw rfl m__law_draw k__law_draw b__law_draw .nil pass0 (pa_cons (pv 0) (pa_cons (pv 1) pa_nil))))
      (C8.pss_cut (ps_if (pt_cmpR op_eq (pe_bm PySem.F.plainAttrs_list PySem.F.slot_list_count PySem.F.type_list_count mt_countV (pv 3) (pa_cons pe_non pa_nil)) (pv 1) (nomark _))
      (pss_one (ps_asg (pe_call G__law_draw hr__law_draw rfl m__law_draw k__law_draw b__law_draw .nil pass0 (pa_cons (pv 0) (pa_cons (pe_op op_add (pv 2) pe_int) pa_nil))) (pg_sub (pv 3) (pv 6) set_list)))
      pss_nil)
      (pss_one (ps_ret (pe_callTy (T := "tuple") call_tuple_of (by rfl) T.b_tuple (by decide +kernel) (pa_cons (pv 3) pa_nil)))))))), ?_⟩
    refine ⟨(by show 0 ≤ sizeLine; decide), fun l nl => ?_⟩
    have nld := D.ne nl
    have nlc := D.nc nl
    walk_at "rr"
    refine for_range (lo := 0) (n := n.toNat) (fun i σ' H2 => ∃ (xs : List (Option Int)) (o o' : Option V), σ' = [some (.ref d), some (.int n), some (.int top), some (.ref l), o, o', none] ∧ H2 l = some (.lst (xs.map vO)) ∧ xs.length = i ∧ (∀ x, some x ∈ xs → 0 ≤ x ∧ x ≤ top) ∧ Keep d H H2 ∧ Dice c H2 d)
      ⟨[], none, none, rfl, upd_same, rfl, (by simp), same_keep (same_new nl), D.upd nld nlc⟩ ?_ ?_
    · rintro i σ' H2 hi ⟨xs, o, o', rfl, hl, e1, e2, k2, D2⟩
      walk_at "rr"
      refine ⟨_, c, _, rfl, D2, by omega, by omega, fun v H3 v0 v1 k3 D3 => ?_⟩
      have hl3 := k3 _ _ nld hl
      refine ⟨fun σ' H' => H' = H3 ∧ ∃ (x : Option Int) (o : Option V), σ' = [some (.ref d), some (.int n), some (.int top), some (.ref l), o, some (vO x), none] ∧ (∀ y, x = some y → 0 ≤ y ∧ y ≤ top), ?_, ?_⟩
      · walk_at "rr"
        refine ite2 (fun g => ?_) (fun g => ?_)
        · exact ⟨rfl, none, _, rfl, fun y hy => by cases hy⟩
        · have g : ¬ top < v := fun z => g (decide_eq_true z)
          exact ⟨rfl, some v, _, rfl, fun y hy => by cases hy; omega⟩
      · rintro σ' H' ⟨rfl, x, o, rfl, hx⟩
        walk_at "rr"
        refine ⟨by rw [List.length_map]; exact small1000 (by omega), xs ++ [x], _, _, rfl, ?_, ?_, ?_, (k2.trans k3).mut nl, D3.upd nld nlc⟩
        · rw [upd_same, List.map_append]; rfl
        · rw [List.length_append, e1]; rfl
        · intro y hy
          rcases List.mem_append.mp hy with q | q
          · exact e2 y q
          · exact hx y (List.mem_singleton.mp q).symm
    · rintro σ' H2 ⟨xs, o, o', rfl, hl, e1, e2, k2, D2⟩
      walk_at "rr"
      refine ⟨_, c, _, rfl, D2, by omega, by omega, fun v H3 v0 v1 k3 D3 => ?_⟩
      have hl3 := k3 _ _ nld hl
      refine ⟨fun σ' H' => ∃ (xs' : List (Option Int)), σ' = [some (.ref d), some (.int n), some (.int top), some (.ref l), o, o', some (.int v)] ∧ H' l = some (.lst (xs'.map vO)) ∧ Prices n top xs' ∧ Keep d H H' ∧ Dice c H' d, ?_, ?_⟩
      · walk_at "rr"
        refine ⟨l, _, .non, rfl, rfl, SqL.of hl3, flat_vO _, rfl, ?_⟩
        rw [cnt_non]
        walk_at "rr"
        refine ite2 (fun g => ?_) (fun g => ?_)
        · walk_at "rr"
          refine ⟨_, c, _, rfl, D3, by omega, by omega, fun u H4 u0 u1 k4 D4 => ?_⟩
          have hl4 := k4 _ _ nld hl3
          refine ⟨_, rfl, _, rfl, l, _, _, v.toNat, rfl, rfl, hl4, ?_, ?_⟩
          · unfold ixN
            rw [List.length_map, if_pos (by omega), if_pos (by omega)]
          refine ⟨xs.set v.toNat (some u), rfl, ?_, ⟨?_, ?_, ?_⟩, (k2.trans (k3.trans k4)).mut nl, D4.upd nld nlc⟩
          · rw [upd_same, List.map_set]; rfl
          · rw [List.length_set]; omega
          · intro x hx
            rcases List.mem_or_eq_of_mem_set hx with q | q
            · exact e2 x q
            · cases q; omega
          · exact ⟨u, List.mem_iff_getElem?.mpr ⟨v.toNat, List.getElem?_set_self (by omega)⟩⟩
        · refine ⟨xs, rfl, hl3, ⟨by omega, e2, ?_⟩, k2.trans k3, D3⟩
          refine Classical.byContradiction fun hno => g ?_
          have hc : xs.countP (fun y => y.isNone) = xs.length := List.countP_eq_length.mpr fun y hy => by
            cases y with
            | none => rfl
            | some y => exact (hno ⟨y, hy⟩).elim
          rw [hc, e1]
          refine decide_eq_true ?_
          rw [Int.toNat_of_nonneg (by omega)]
      · rintro σ' H' ⟨xs', rfl, hl', hP, k4, D4⟩
        walk_at "rr"
        intro t nt
        walk_at "rr"
        exact k _ xs' _ ⟨t, rfl, upd_same⟩ hP (k4.mut (k4.free (D4.ne nt) nt)) (D4.upd (D4.ne nt) (D4.nc nt))
theorem ok__law_requests (T : Top K mg) : Ok P w K mg base 3 "_law_requests" ["dice", "names", "posts", "top"] (spRequests K) := by
  refine ok_of T.d__law_requests sc__law_requests (fun vs H Q E h => ?_) (fun f cdv A outer s H vs Q E hr h => ?_)
  · obtain ⟨d, c, l, zs, n, top, rfl, _⟩ := h
    rfl
  · obtain ⟨d, c, l, zs, n, top, rfl, D, hl, hz, nld, nd, hn, hn2, ht, ht2, k⟩ := h
    obtain ⟨f__law_prices, fd__law_prices, m__law_prices, k__law_prices, b__law_prices, G__law_prices⟩ := ok__law_prices (P := P) (w := w) (base := base) T
    have hr__law_prices : Room 2 _ := hr.mono (by decide)
    have hu := hu_of hr
    refine ⟨_, (pss_cons (ps_set (i := 4) sc__law_requests.nd rfl (Or.inl rfl) pe_dnewK)
      (pss_cons (ps_for PassesOwn.never rfl (pi_list (pv 1)) (pg_name (i := 5) sc__law_requests.nd rfl (Or.inl rfl))
      (pss_one (ps_dput hu (pv 4) (pv 5) (pe_call G__law_prices hr__law_prices rfl m__law_prices k__law_prices b__law_prices .nil pass0 (pa_cons (pv 0) (pa_cons (pv 2) (pa_cons (pv 3) pa_nil)))) rfl)))
      (pss_one (ps_ret (pv 4))))), ?_⟩
    intro p np
    have npd := D.ne np
    have npc := D.nc np
    have npl : p ≠ l := (ne_of_none hl np).symm
    walk_at "rr"
    refine ⟨⟨_, SqL.of ((upd_ne npl.symm).trans hl)⟩, ?_⟩
    refine for_list (K := K) (a := l) (xs := zs.map V.str) (fun i σ' H2 => ∃ (kvs : List (Key × V)) (rs : List (Str × List (Option Int))) (o : Option V), σ' = [some (.ref d), some (.ref l), some (.int n), some (.int top), some (.ref p), o] ∧
        H2 p = some (.dK kvs) ∧ H2 l = some (.lst (zs.map V.str)) ∧ DctOf OptT H2 kvs rs ∧ rs.map (·.1) = zs.take i ∧ (∀ q ∈ rs, Prices n top q.2) ∧ Keep d H H2 ∧ Dice c H2 d)
      ⟨[], [], none, rfl, upd_same, (upd_ne npl.symm).trans hl, .nil, by simp, (by simp), same_keep (same_new np), D.upd npd npc⟩ (fun i σ' H2 _ ⟨_, _, _, _, _, q, _⟩ => SqL.of q) ?_ ?_
    · rintro i x σ' H2 hi ⟨kvs, rs, o, rfl, hp, hl2, hR, e1, e2, k2, D2⟩
      obtain ⟨z, hz2, rfl⟩ : ∃ z, zs[i]? = some z ∧ V.str z = x := by
        rw [List.getElem?_map] at hi
        cases e : zs[i]? with
        | none => rw [e] at hi; cases hi
        | some z => rw [e] at hi; exact ⟨z, rfl, Option.some.inj hi⟩
      have hil := (List.getElem?_eq_some_iff.mp hz2).1
      walk_at "rr"
      refine ⟨_, c, _, _, rfl, D2, hn, hn2, ht, ht2, fun v row H3 hv hP k3 D3 => ?_⟩
      have hp3 := k3 _ _ npd hp
      have hl3 := k3 _ _ nld hl2
      have hR3 := hR.firm OptT.firm (keep_tups k3 D2)
      have hno : ¬ z ∈ rs.map (·.1) := by
        rw [e1]
        intro m
        obtain ⟨j, hj, ej⟩ := List.getElem_of_mem m
        rw [List.getElem_take] at ej
        rw [List.length_take] at hj
        have h2 := (List.getElem?_eq_some_iff.mp hz2).2
        have := (List.getElem_inj nd).mp (ej.trans h2.symm)
        omega
      have hkl : kvs.length ≤ i := by
        rw [dct_len hR, ← List.length_map (f := (·.1)), e1, List.length_take]; omega
      walk_at "rr"
      refine ⟨p, _, rfl, DPut.k (k := Sum.inr z) hp3 (small1000 (by omega)), ?_⟩
      rw [putK_new _ (dct_none hR3 hno)]
      have hRn : DctOf OptT (upd H3 p (.dK (kvs ++ [(Sum.inr z, v)]))) kvs rs := hR3.firm OptT.firm fun a xs' e => by
        rw [upd_ne (ne_of e hp3 (by intro z; cases z))]; exact e
      have hvn : OptT (upd H3 p (.dK (kvs ++ [(Sum.inr z, v)]))) v row := OptT.firm H3 _ _ _ (fun a xs' e => by
        rw [upd_ne (ne_of e hp3 (by intro z; cases z))]; exact e) hv
      refine ⟨_, rs ++ [(z, row)], _, rfl, upd_same, (upd_ne npl.symm).trans hl3, Paired.snoc hRn ⟨rfl, hvn⟩, ?_, ?_, (k2.trans k3).mut np, D3.upd npd npc⟩
      · rw [List.map_append, e1, List.take_add_one, hz2]; rfl
      · intro q hq
        rcases List.mem_append.mp hq with m | m
        · exact e2 q m
        · rw [List.mem_singleton.mp m]; exact hP
    · rintro σ' H2 ⟨kvs, rs, o, rfl, hp, hl2, hR, e1, e2, k2, D2⟩
      walk_at "rr"
      exact k p kvs rs H2 np hp hR (by rw [e1, List.length_map, List.take_length]) e2 k2 D2
end
end Toy

namespace Toy
open PySem PySem.Spec PyProof.Rows L2
local macro_rules | `(tactic| walk_at "hp") => `(tactic| first
  | assumption
  | exact upd_same
  | (refine Eq.trans (upd_ne (by first | assumption | (apply Ne.symm; assumption))) ?_; walk_at "hp"))
local macro_rules | `(tactic| walk_at "side") => `(tactic| first
  | exact .inl ⟨by omega, by omega⟩
  | exact .inr ⟨by omega, by omega⟩
  | exact ⟨by omega, by omega⟩
  | (show _ ≤ _; omega)
  | (show (_ : Int) < _; omega)
  | decide
  | assumption)
local macro_rules | `(tactic| walk_at "r") => `(tactic| first
  | refine ⟨_, rfl, ?_⟩
  | refine ⟨_, _, rfl, rfl, ?_⟩
  | refine ⟨_, _, _, _, rfl, rfl, SqL.of (by walk_at "hp"), rfl, ?_⟩
  | refine ⟨_, _, _, _, rfl, rfl, SqT.of (by walk_at "hp"), rfl, ?_⟩
  | refine ⟨_, _, _, _, rfl, rfl, (by walk_at "hp"), rfl, ?_⟩
  | refine And.intro rfl ?_
  | refine ⟨_, _, rfl, SqT.of (by walk_at "hp"), ?_⟩
  | refine ⟨_, _, rfl, SqL.of (by walk_at "hp"), ?_⟩
  | refine .inl ⟨_, rfl, ?_⟩
  | refine ⟨_, _, rfl, .inl (SqL.of (by walk_at "hp")), ?_⟩
  | refine ⟨_, _, rfl, .inr (SqT.of (by walk_at "hp")), ?_⟩
  | refine ⟨_, _, rfl, .inl ⟨SqL.of (by walk_at "hp"), ?_⟩⟩
  | refine And.intro (.inl ⟨rfl, _, SqL.of (by walk_at "hp")⟩) ?_
  | refine ⟨_, _, _, rfl, rfl, (by walk_at "hp"), ?_⟩
  | refine ⟨_, _, rfl, (by walk_at "hp"), ?_⟩
  | refine And.intro (by walk_at "side") ?_)
local macro_rules | `(tactic| walk_at "rr") => `(tactic| (repeat walk_at "r"))
local macro_rules | `(tactic| walk_at "k") => `(tactic| first
  | refine ite2 (fun _ => ?_) (fun g => absurd rfl g)
  | refine ite2 (fun g => absurd g (by decide)) (fun _ => ?_)
  | refine ite2 (fun _ => ?_) (fun g => absurd (decide_eq_true (by omega)) g)
  | refine ite2 (fun g => absurd (of_decide_eq_true g) (by omega)) (fun _ => ?_)
  | refine ite2 (fun g => (nd_t g (by omega)).elim) (fun _ => ?_)
  | refine ite2 (fun _ => ?_) (fun g => absurd (nd_f g) (by omega)))
local macro_rules | `(tactic| walk_at "rk") => `(tactic| (repeat (first | walk_at "r" | walk_at "k")))
section
variable {P : Program} {w : World} {K : PySem.W.Frag} {mg : Str → Option Value} {base : Heap}
theorem ok_is_integer (T : Top K mg) : Ok P w K mg base 1 "is_integer" ["thing"] spIsInteger := by
  refine ok_of T.d_is_integer sc_is_integer (fun vs H Q E h => ?_) (fun f cdv A outer s H vs Q E hr h => ?_)
  · obtain ⟨v, n, rfl, _⟩ := h
    rfl
  · obtain ⟨v, n, rfl, hn, k⟩ := h
    refine ⟨_, (pss_one (ps_ret (pe_and (pe_callB (id := "isinstance") (call_isN (T := "int")) (by rfl) T.b_isinstance (by decide +kernel) (pa_cons (pv 0) (pa_cons (pe_bltn (v := .ty "int") (u := .type "int") (by rfl) T.b_int (by decide +kernel) rfl) pa_nil))) (pe_one (pe_not (pe_callB (id := "isinstance") (call_isN (T := "bool")) (by rfl) T.b_isinstance (by decide +kernel) (pa_cons (pv 0) (pa_cons (pe_bltn (v := .ty "bool") (u := .type "bool") (by rfl) T.b_bool (by decide +kernel) rfl) pa_nil)))))))), ?_⟩
    refine ⟨_, rfl, _, n, _, rfl, hn, kit7 hn (T := "int") (by simp), _, rfl, ?_⟩
    refine ite2 (fun g => ?_) (fun g => ?_)
    · refine ⟨_, rfl, _, n, _, rfl, hn, kit7 hn (T := "bool") (by simp), _, rfl, ?_⟩
      have e : (!(n == "bool" || n == "bool" && "bool" == "int")) = isI v := by
        rw [← isI_n hn]
        simp only [Bool.or_eq_true, Bool.and_eq_true, beq_iff_eq] at g
        rcases g with g | g
        · subst g; rfl
        · rw [g.1]; rfl
      rw [e]; exact k
    · have e : isI v = false := by
        rw [← isI_n hn]
        simp only [Bool.or_eq_true, Bool.and_eq_true, beq_iff_eq, not_or] at g
        simp [g.1]
      rw [e] at k; exact k
theorem ok_is_natural (T : Top K mg) : Ok P w K mg base 2 "is_natural" ["thing"] spIsNatural := by
  refine ok_of T.d_is_natural sc_is_natural (fun vs H Q E h => ?_) (fun f cdv A outer s H vs Q E hr h => ?_)
  · obtain ⟨v, n, rfl, _⟩ := h
    rfl
  · obtain ⟨v, n, rfl, hn, k⟩ := h
    obtain ⟨f_is_integer, fd_is_integer, m_is_integer, k_is_integer, b_is_integer, G_is_integer⟩ := ok_is_integer (P := P) (w := w) (base := base) T
    have hr_is_integer : Room 1 _ := hr.mono (by decide)
    refine ⟨_, (pss_one (ps_ret (pe_and (pe_call G_is_integer hr_is_integer rfl m_is_integer k_is_integer b_is_integer .nil pass0 (pa_cons (pv 0) pa_nil)) (pe_one (pe_cmpR op_ge (pv 0) pe_int (nomark _)))))), ?_⟩
    refine ⟨_, rfl, _, n, rfl, hn, _, rfl, ?_⟩
    refine ite2 (fun g => ?_) (fun g => ?_)
    · obtain ⟨i, rfl⟩ : ∃ i, v = .int i := by cases v <;> first | exact ⟨_, rfl⟩ | cases g
      walk_at "rr"
      exact k
    · rw [isNat_no (by simpa using g)] at k
      exact k
theorem ok_is_below (T : Top K mg) : Ok P w K mg base 3 "is_below" ["thing", "many"] spIsBelow := by
  refine ok_of T.d_is_below sc_is_below (fun vs H Q E h => ?_) (fun f cdv A outer s H vs Q E hr h => ?_)
  · obtain ⟨v, n, m, rfl, _⟩ := h
    rfl
  · obtain ⟨v, n, m, rfl, hn, k⟩ := h
    obtain ⟨f_is_natural, fd_is_natural, m_is_natural, k_is_natural, b_is_natural, G_is_natural⟩ := ok_is_natural (P := P) (w := w) (base := base) T
    have hr_is_natural : Room 2 _ := hr.mono (by decide)
    refine ⟨_, (pss_one (ps_ret (pe_and (pe_call G_is_natural hr_is_natural rfl m_is_natural k_is_natural b_is_natural .nil pass0 (pa_cons (pv 0) pa_nil)) (pe_one (pe_cmpR op_lt (pv 0) (pv 1) (nomark _)))))), ?_⟩
    refine ⟨_, rfl, _, n, rfl, hn, _, rfl, ?_⟩
    refine ite2 (fun g => ?_) (fun g => ?_)
    · obtain ⟨i, rfl⟩ : ∃ i, v = .int i := by cases v <;> first | exact ⟨_, rfl⟩ | cases g
      have g : 0 ≤ i := of_decide_eq_true g
      walk_at "rr"
      have e : isBelow m (.int i) = decide (i < m) := by
        show decide (0 ≤ i ∧ i < m) = _
        simp [g]
      rw [e] at k; exact k
    · rw [isBelow_no (by simpa using g)] at k
      exact k
theorem ok_is_row (T : Top K mg) : Ok P w K mg base 1 "is_row" ["thing"] spIsRow := by
  refine ok_of T.d_is_row sc_is_row (fun vs H Q E h => ?_) (fun f cdv A outer s H vs Q E hr h => ?_)
  · obtain ⟨v, n, rfl, _⟩ := h
    rfl
  · obtain ⟨v, n, rfl, hn, k⟩ := h
    refine ⟨_, (pss_one (ps_ret (pe_callB (id := "isinstance") (call_isN2 (T := "list") (U := "tuple")) (by rfl) T.b_isinstance (by decide +kernel) (pa_cons (pv 0) (pa_cons (pe_tup (pa_cons (pe_bltn (v := .ty "list") (u := .type "list") (by rfl) T.b_list (by decide +kernel) rfl) (pa_cons (pe_bltn (v := .ty "tuple") (u := .type "tuple") (by rfl) T.b_tuple (by decide +kernel) rfl) pa_nil))) pa_nil))))), ?_⟩
    refine ⟨_, rfl, (by show 2 ≤ sizeLine; decide), fun p hp => ?_⟩
    have hn' := tyN_keep (same_new (o := .tup [.ty "list", .ty "tuple"]) hp) hn
    have hb : (n == "list" || n == "bool" && "list" == "int" || (n == "tuple" || n == "bool" && "tuple" == "int")) = (n == "list" || n == "tuple") := by simp
    refine ⟨_, p, n, n == "list" || n == "tuple", rfl, upd_same, hn', (by rintro rfl; rfl), (by rintro rfl; rfl), ⟨_, _, kit7 hn (by simp), kit7 hn (by simp), hb.symm⟩, ?_⟩
    exact k _ (same_new hp)
theorem ok__is_price (T : Top K mg) : Ok P w K mg base 4 "_is_price" ["thing"] spIsPrice := by
  refine ok_of T.d__is_price sc__is_price (fun vs H Q E h => ?_) (fun f cdv A outer s H vs Q E hr h => ?_)
  · obtain ⟨v, n, rfl, _⟩ := h
    rfl
  · obtain ⟨v, n, rfl, hn, k⟩ := h
    obtain ⟨t_MOST_PRICE, g_MOST_PRICE⟩ := T.g_MOST_PRICE
    obtain ⟨f_is_below, fd_is_below, m_is_below, k_is_below, b_is_below, G_is_below⟩ := ok_is_below (P := P) (w := w) (base := base) T
    have hr_is_below : Room 3 _ := hr.mono (by decide)
    refine ⟨_, (pss_one (ps_ret (pe_call G_is_below hr_is_below rfl m_is_below k_is_below b_is_below .nil pass0 (pa_cons (pv 0) (pa_cons (pe_op op_add (pe_glob (v := .int 9) rfl g_MOST_PRICE ⟨_, rfl⟩) pe_int) pa_nil))))), ?_⟩
    walk_at "rr"
    exact ⟨_, n, _, rfl, hn, k⟩
theorem ok__law_is_integer (T : Top K mg) : Ok P w K mg base 1 "_law_is_integer" ["thing"] spIsInteger := by
  refine ok_of T.d__law_is_integer sc__law_is_integer (fun vs H Q E h => ?_) (fun f cdv A outer s H vs Q E hr h => ?_)
  · obtain ⟨v, n, rfl, _⟩ := h
    rfl
  · obtain ⟨v, n, rfl, hn, k⟩ := h
    refine ⟨_, (pss_one (ps_ret (pe_and (pe_callB (id := "isinstance") (call_isN (T := "int")) (by rfl) T.b_isinstance (by decide +kernel) (pa_cons (pv 0) (pa_cons (pe_bltn (v := .ty "int") (u := .type "int") (by rfl) T.b_int (by decide +kernel) rfl) pa_nil))) (pe_one (pe_not (pe_callB (id := "isinstance") (call_isN (T := "bool")) (by rfl) T.b_isinstance (by decide +kernel) (pa_cons (pv 0) (pa_cons (pe_bltn (v := .ty "bool") (u := .type "bool") (by rfl) T.b_bool (by decide +kernel) rfl) pa_nil)))))))), ?_⟩
    refine ⟨_, rfl, _, n, _, rfl, hn, kit7 hn (T := "int") (by simp), _, rfl, ?_⟩
    refine ite2 (fun g => ?_) (fun g => ?_)
    · refine ⟨_, rfl, _, n, _, rfl, hn, kit7 hn (T := "bool") (by simp), _, rfl, ?_⟩
      have e : (!(n == "bool" || n == "bool" && "bool" == "int")) = isI v := by
        rw [← isI_n hn]
        simp only [Bool.or_eq_true, Bool.and_eq_true, beq_iff_eq] at g
        rcases g with g | g
        · subst g; rfl
        · rw [g.1]; rfl
      rw [e]; exact k
    · have e : isI v = false := by
        rw [← isI_n hn]
        simp only [Bool.or_eq_true, Bool.and_eq_true, beq_iff_eq, not_or] at g
        simp [g.1]
      rw [e] at k; exact k
theorem ok_is_tuple_of (T : Top K mg) : Ok P w K mg base 1 "is_tuple_of" ["thing", "many"] spIsTupleOf := by
  refine ok_of T.d_is_tuple_of sc_is_tuple_of (fun vs H Q E h => ?_) (fun f cdv A outer s H vs Q E hr h => ?_)
  · obtain ⟨v, n, m, rfl, _⟩ := h
    rfl
  · obtain ⟨v, n, m, rfl, hn, k⟩ := h
    refine ⟨_, (pss_one (ps_ret (pe_and (pe_callB (id := "isinstance") (call_isN (T := "tuple")) (by rfl) T.b_isinstance (by decide +kernel) (pa_cons (pv 0) (pa_cons (pe_bltn (v := .ty "tuple") (u := .type "tuple") (by rfl) T.b_tuple (by decide +kernel) rfl) pa_nil))) (pe_one (pe_cmpR op_eq (pe_callB call_len_seq (by rfl) T.b_len (by decide +kernel) (pa_cons (pv 0) pa_nil)) (pv 1) (nomark _)))))), ?_⟩
    refine ⟨_, rfl, _, n, _, rfl, hn, kit7 hn (T := "tuple") (by simp), _, rfl, ?_⟩
    have e0 : (n == "tuple" || n == "bool" && "tuple" == "int") = (n == "tuple") := by simp
    rw [e0]
    refine ite2 (fun g => ?_) (fun g => ?_)
    · have g := beq_iff_eq.mp g
      subst g
      obtain ⟨a, xs, rfl, ha⟩ := tyN_tup hn
      have e : isTup H m (.ref a) = decide ((xs.length : Int) = m) := by unfold isTup; simp only [ha]
      rw [e] at k
      walk_at "rr"
      rw [dec_int]
      exact k
    · rw [isTup_no hn (by simpa using g)] at k
      exact k
end
end Toy

namespace Toy
open PySem PySem.Spec PyProof.Rows L2
local macro_rules | `(tactic| walk_at "hp") => `(tactic| first
  | assumption
  | exact upd_same
  | (refine Eq.trans (upd_ne (by first | assumption | (apply Ne.symm; assumption))) ?_; walk_at "hp"))
local macro_rules | `(tactic| walk_at "side") => `(tactic| first
  | exact .inl ⟨by omega, by omega⟩
  | exact .inr ⟨by omega, by omega⟩
  | exact ⟨by omega, by omega⟩
  | (show _ ≤ _; omega)
  | (show (_ : Int) < _; omega)
  | decide
  | assumption)
local macro_rules | `(tactic| walk_at "r") => `(tactic| first
  | refine ⟨_, rfl, ?_⟩
  | refine ⟨_, _, rfl, rfl, ?_⟩
  | refine ⟨_, _, _, _, rfl, rfl, SqL.of (by walk_at "hp"), rfl, ?_⟩
  | refine ⟨_, _, _, _, rfl, rfl, SqT.of (by walk_at "hp"), rfl, ?_⟩
  | refine ⟨_, _, _, _, rfl, rfl, (by walk_at "hp"), rfl, ?_⟩
  | refine And.intro rfl ?_
  | refine ⟨_, _, rfl, SqT.of (by walk_at "hp"), ?_⟩
  | refine ⟨_, _, rfl, SqL.of (by walk_at "hp"), ?_⟩
  | refine .inl ⟨_, rfl, ?_⟩
  | refine ⟨_, _, rfl, .inl (SqL.of (by walk_at "hp")), ?_⟩
  | refine ⟨_, _, rfl, .inr (SqT.of (by walk_at "hp")), ?_⟩
  | refine ⟨_, _, rfl, .inl ⟨SqL.of (by walk_at "hp"), ?_⟩⟩
  | refine And.intro (.inl ⟨rfl, _, SqL.of (by walk_at "hp")⟩) ?_
  | refine ⟨_, _, _, rfl, rfl, (by walk_at "hp"), ?_⟩
  | refine ⟨_, _, rfl, (by walk_at "hp"), ?_⟩
  | refine And.intro (by walk_at "side") ?_)
local macro_rules | `(tactic| walk_at "rr") => `(tactic| (repeat walk_at "r"))
local macro_rules | `(tactic| walk_at "k") => `(tactic| first
  | refine ite2 (fun _ => ?_) (fun g => absurd rfl g)
  | refine ite2 (fun g => absurd g (by decide)) (fun _ => ?_)
  | refine ite2 (fun _ => ?_) (fun g => absurd (decide_eq_true (by omega)) g)
  | refine ite2 (fun g => absurd (of_decide_eq_true g) (by omega)) (fun _ => ?_)
  | refine ite2 (fun g => (nd_t g (by omega)).elim) (fun _ => ?_)
  | refine ite2 (fun _ => ?_) (fun g => absurd (nd_f g) (by omega)))
local macro_rules | `(tactic| walk_at "rk") => `(tactic| (repeat (first | walk_at "r" | walk_at "k")))
section
variable {P : Program} {w : World} {K : PySem.W.Frag} {mg : Str → Option Value} {base : Heap}
theorem ok_is_name (T : Top K mg) : Ok P w K mg base 1 "is_name" ["thing"] spIsName := by
  refine ok_of T.d_is_name sc_is_name (fun vs H Q E h => ?_) (fun f cdv A outer s H vs Q E hr h => ?_)
  · obtain ⟨v, n, rfl, _⟩ := h
    rfl
  · obtain ⟨v, n, rfl, hn, hl, k⟩ := h
    obtain ⟨t_LETTERS, g_LETTERS⟩ := T.g_LETTERS
    refine ⟨_, (pss_one (ps_ret (pe_and (pe_callB (id := "isinstance") (call_isN (T := "str")) (by rfl) T.b_isinstance (by decide +kernel) (pa_cons (pv 0) (pa_cons (pe_bltn (v := .ty "str") (u := .type "str") (by rfl) T.b_str (by decide +kernel) rfl) pa_nil))) (pe_and (pe_chain op_le op_le pe_int (pe_callB call_len_str (by rfl) T.b_len (by decide +kernel) (pa_cons (pv 0) pa_nil)) pe_int) (pe_one (pe_callB (id := "all") (cr_all rfl) (by rfl) T.b_all (by decide +kernel) (pa_cons (pe_lc (own := [("letter", 1)]) (g := gName 1) rfl sc_is_name.nd (pi_str (pv 0)) (blkOk_by (own := [("letter", 1)]) (N := ["thing", "letter"]) (sc := defScope s_is_name) (by decide +kernel)) (fun _ _ _ _ _ => (pg_name (i := 1) sc_is_name.nd rfl (Or.inl rfl))) (fun _ _ _ _ _ => pts_nil) (fun _ _ _ _ _ => (pe_cmpR op_in_sign (pv 1) (pe_glob (v := .str "abcdefghijklmnopqrstuvwxyz") rfl g_LETTERS ⟨_, rfl⟩) rfl))) pa_nil))))))), ?_⟩
    refine ⟨_, rfl, _, n, _, rfl, hn, kit7 hn (T := "str") (by simp), _, rfl, ?_⟩
    have e0 : (n == "str" || n == "bool" && "str" == "int") = (n == "str") := by simp
    rw [e0]
    refine ite2 (fun g => ?_) (fun g => ?_)
    · have g := beq_iff_eq.mp g
      subst g
      obtain ⟨z, rfl⟩ := tyN_str hn
      have hz := hl z rfl
      have dom : isNm (.str z) = decide (1 ≤ z.length ∧ z.length ≤ 8 ∧ ∀ c ∈ z.cps.toList, 97 ≤ c ∧ c ≤ 122) := rfl
      walk_at "rr"
      refine ite2 (fun g => ?_) (fun g => ?_)
      · have g : 1 ≤ (z.length : Int) := of_decide_eq_true g
        walk_at "rr"
        refine ite2 (fun g2 => ?_) (fun g2 => ?_)
        · have g2 : (z.length : Int) ≤ 8 := of_decide_eq_true g2
          walk_at "rr"
          intro D nD
          have hsz : z.cps.size = z.length := rfl
          refine lc_it walk_str (fun i H2 => H2 D = some (.lst (((z.cps.toList.take i).map fun c => decide (97 ≤ c ∧ c ≤ 122)).map V.bl)) ∧ Same H H2) ⟨upd_same, same_new nD⟩ (fun _ _ _ _ => True.intro) ?_ ?_
          · rintro i x H2 H3 hi ⟨e1, e2⟩ ⟨rfl, ch, hc, rfl⟩
            refine ⟨rfl, ?_⟩
            refine yesT ?_
            refine ⟨_, rfl, ch, _, rfl, rfl, _, e1, ?_, ?_, ?_⟩
            · rw [List.length_map, List.length_map, List.length_take]; exact small1000 (by omega)
            · rw [upd_same, abc_mem]
              have hc' : z.cps.toList[i]? = some ch := by rw [Array.getElem?_toList]; exact hc
              rw [List.take_add_one, hc', List.map_append, List.map_append]
              rfl
            · intro b o hb
              rw [upd_ne (ne_of_none hb nD)]
              exact e2 b o hb
          · rintro H2 ⟨e1, e2⟩
            refine ⟨D, _, rfl, SqL.of e1, ?_⟩
            have hall : ((List.take z.cps.size z.cps.toList).map fun c => decide (97 ≤ c ∧ c ≤ 122)).all id = isNm (.str z) := by
              rw [dom, show z.cps.size = z.cps.toList.length from (Array.length_toList).symm, List.take_length]
              rw [List.all_map]
              by_cases hq : ∀ c ∈ z.cps.toList, 97 ≤ c ∧ c ≤ 122
              · rw [decide_eq_true ⟨by omega, by omega, hq⟩, List.all_eq_true]
                intro c hc
                exact decide_eq_true (hq c hc)
              · rw [decide_eq_false fun z => hq z.2.2]
                refine Bool.eq_false_iff.mpr fun hh => hq fun c hc => ?_
                exact of_decide_eq_true (List.all_eq_true.mp hh c hc)
            rw [hall]
            exact k H2 e2
        · have e : isNm (.str z) = false := by
            rw [dom]; exact decide_eq_false fun q => g2 (decide_eq_true (by omega))
          rw [e] at k; exact k _ (Same.refl _)
      · have e : isNm (.str z) = false := by
          rw [dom]; exact decide_eq_false fun q => g (decide_eq_true (by omega))
        rw [e] at k; exact ⟨_, rfl, ite2 (fun q => by cases q) (fun _ => k _ (Same.refl _))⟩
    · have e : isNm v = false := by
        cases v with
        | str z => exact absurd (Option.some.inj hn) (fun q => g (by rw [← q]; rfl))
        | _ => rfl
      rw [e] at k; exact k _ (Same.refl _)
theorem ok_is_known (T : Top K mg) : Ok P w K mg base 1 "is_known" ["thing", "names"] spIsKnown := by
  refine ok_of T.d_is_known sc_is_known (fun vs H Q E h => ?_) (fun f cdv A outer s H vs Q E hr h => ?_)
  · obtain ⟨z, v, rfl, _⟩ := h
    rfl
  · obtain ⟨z, v, rfl, h⟩ := h
    have hu := hu_of hr
    refine ⟨_, (pss_one (ps_ret (pe_and (pe_callB (id := "isinstance") (call_isN (T := "str")) (by rfl) T.b_isinstance (by decide +kernel) (pa_cons (pv 0) (pa_cons (pe_bltn (v := .ty "str") (u := .type "str") (by rfl) T.b_str (by decide +kernel) rfl) pa_nil))) (pe_one (pe_cmpR (op_or op_in_seq (op_in_dct hu)) (pv 0) (pv 1) rfl))))), ?_⟩
    refine ⟨_, rfl, _, "str", _, rfl, rfl, kit7 (H := H) (v := .str z) rfl (T := "str") (by simp), _, rfl, ?_⟩
    refine ite2 (fun g => ?_) (fun g => ?_)
    · walk_at "rr"
      rcases h with ⟨a, zs, rfl, hh, k⟩ | ⟨a, kvs, rfl, hk, k⟩
      · refine .inl ⟨a, zs.map V.str, rfl, ?_, rfl, flat_str _, ?_⟩
        · rcases hh with q | q
          · exact .inr (SqT.of q)
          · exact .inl (SqL.of q)
        · show Q (.bl (inV (.str z) (zs.map V.str))) H
          rw [inV_str]; exact k
      · exact .inr ⟨a, _, rfl, DGet.k (k := Sum.inr z) hk, k⟩
    · exact (g rfl).elim
end
end Toy

namespace Toy
open PySem PySem.Spec PyProof.Rows L2
local macro_rules | `(tactic| walk_at "hp") => `(tactic| first
  | assumption
  | exact upd_same
  | (refine Eq.trans (upd_ne (by first | assumption | (apply Ne.symm; assumption))) ?_; walk_at "hp"))
local macro_rules | `(tactic| walk_at "side") => `(tactic| first
  | exact .inl ⟨by omega, by omega⟩
  | exact .inr ⟨by omega, by omega⟩
  | exact ⟨by omega, by omega⟩
  | (show _ ≤ _; omega)
  | (show (_ : Int) < _; omega)
  | decide
  | assumption)
local macro_rules | `(tactic| walk_at "r") => `(tactic| first
  | refine ⟨_, rfl, ?_⟩
  | refine ⟨_, _, rfl, rfl, ?_⟩
  | refine ⟨_, _, _, _, rfl, rfl, SqL.of (by walk_at "hp"), rfl, ?_⟩
  | refine ⟨_, _, _, _, rfl, rfl, SqT.of (by walk_at "hp"), rfl, ?_⟩
  | refine ⟨_, _, _, _, rfl, rfl, (by walk_at "hp"), rfl, ?_⟩
  | refine And.intro rfl ?_
  | refine ⟨_, _, rfl, SqT.of (by walk_at "hp"), ?_⟩
  | refine ⟨_, _, rfl, SqL.of (by walk_at "hp"), ?_⟩
  | refine .inl ⟨_, rfl, ?_⟩
  | refine ⟨_, _, rfl, .inl (SqL.of (by walk_at "hp")), ?_⟩
  | refine ⟨_, _, rfl, .inr (SqT.of (by walk_at "hp")), ?_⟩
  | refine ⟨_, _, rfl, .inl ⟨SqL.of (by walk_at "hp"), ?_⟩⟩
  | refine And.intro (.inl ⟨rfl, _, SqL.of (by walk_at "hp")⟩) ?_
  | refine ⟨_, _, _, rfl, rfl, (by walk_at "hp"), ?_⟩
  | refine ⟨_, _, rfl, (by walk_at "hp"), ?_⟩
  | refine And.intro (by walk_at "side") ?_)
local macro_rules | `(tactic| walk_at "rr") => `(tactic| (repeat walk_at "r"))
local macro_rules | `(tactic| walk_at "k") => `(tactic| first
  | refine ite2 (fun _ => ?_) (fun g => absurd rfl g)
  | refine ite2 (fun g => absurd g (by decide)) (fun _ => ?_)
  | refine ite2 (fun _ => ?_) (fun g => absurd (decide_eq_true (by omega)) g)
  | refine ite2 (fun g => absurd (of_decide_eq_true g) (by omega)) (fun _ => ?_)
  | refine ite2 (fun g => (nd_t g (by omega)).elim) (fun _ => ?_)
  | refine ite2 (fun _ => ?_) (fun g => absurd (nd_f g) (by omega)))
local macro_rules | `(tactic| walk_at "rk") => `(tactic| (repeat (first | walk_at "r" | walk_at "k")))
section
variable {P : Program} {w : World} {K : PySem.W.Frag} {mg : Str → Option Value} {base : Heap}
theorem ok_is_moves (T : Top K mg) : Ok P w K mg base 5 "is_moves" ["thing"] spIsMoves := by
  refine ok_of T.d_is_moves sc_is_moves (fun vs H Q E h => ?_) (fun f cdv A outer s H vs Q E hr h => ?_)
  · obtain ⟨v, rows, n, top, rfl, _⟩ := h
    rfl
  · obtain ⟨v, rows, n, top, rfl, ⟨a, vs, rfl, ha, hp⟩, S, h1, h6, h9, k⟩ := h
    obtain ⟨t_MOST_POSTS, g_MOST_POSTS⟩ := T.g_MOST_POSTS
    obtain ⟨f__is_price, fd__is_price, m__is_price, k__is_price, b__is_price, G__is_price⟩ := ok__is_price (P := P) (w := w) (base := base) T
    have hr__is_price : Room 4 _ := hr.mono (by decide)
    obtain ⟨f_is_tuple_of, fd_is_tuple_of, m_is_tuple_of, k_is_tuple_of, b_is_tuple_of, G_is_tuple_of⟩ := ok_is_tuple_of (P := P) (w := w) (base := base) T
    have hr_is_tuple_of : Room 1 _ := hr.mono (by decide)
    have hl : (vs.length : Int) = n := by rw [prd_len hp]; exact S.len
    refine ⟨_, (pss_cons (ps_if (PW.pt (pw_or (pt_not (pt_val (pe_callB (id := "isinstance") (call_isN (T := "tuple")) (by rfl) T.b_isinstance (by decide +kernel) (pa_cons (pv 0) (pa_cons (pe_bltn (v := .ty "tuple") (u := .type "tuple") (by rfl) T.b_tuple (by decide +kernel) rfl) pa_nil))))) (pw_or1 (pt_not (pt_chain op_le op_le pe_int (pe_callB (id := "len") call_len_seq (by rfl) T.b_len (by decide +kernel) (pa_cons (pv 0) pa_nil)) (pe_glob (v := .int 6) rfl g_MOST_POSTS ⟨_, rfl⟩))))))
      (pss_one (ps_ret pe_bl))
      pss_nil)
      (pss_cons (ps_for PassesOwn.never rfl (pi_enumT (by rfl) T.b_enumerate (pa_cons (pv 0) pa_nil)) (pg_tup rfl (pgs_cons (pg_name (i := 1) sc_is_moves.nd rfl (Or.inl rfl)) (pgs_cons (pg_name (i := 2) sc_is_moves.nd rfl (Or.inl rfl)) pgs_nil)))
      (pss_cons (ps_if (PW.pt (pw_or (pt_not (pt_val (pe_call G_is_tuple_of hr_is_tuple_of rfl m_is_tuple_of k_is_tuple_of b_is_tuple_of .nil pass0 (pa_cons (pv 2) (pa_cons (pe_callB (id := "len") call_len_seq (by rfl) T.b_len (by decide +kernel) (pa_cons (pv 0) pa_nil)) pa_nil))))) (pw_or1 (pt_not (pt_val (pe_callB (id := "all") (cr_all rfl) (by rfl) T.b_all (by decide +kernel) (pa_cons (pe_lc (own := [("price", 3)]) (g := gName 3) rfl sc_is_moves.nd (pi_tup (pv 2)) (blkOk_by (own := [("price", 3)]) (N := ["thing", "post", "prices", "price"]) (sc := defScope s_is_moves) (by decide +kernel)) (fun _ _ _ _ _ => (pg_name (i := 3) sc_is_moves.nd rfl (Or.inl rfl))) (fun _ _ _ _ _ => pts_nil) (fun _ _ _ _ _ => (pe_call G__is_price hr__is_price rfl m__is_price k__is_price b__is_price .nil pass0 (pa_cons (pv 3) pa_nil)))) pa_nil)))))))
      (pss_one (ps_ret pe_bl))
      pss_nil)
      (pss_one (ps_if (pt_cmpR op_ne (pe_ix ix_tup (pv 2) (pv 1) (fun _ _ => rfl)) pe_int (nomark _))
      (pss_one (ps_ret pe_bl))
      pss_nil))))
      (pss_one (ps_ret pe_bl)))), ?_⟩
    have hty : tyN H (.ref a) = some "tuple" := by unfold tyN; simp only [ha]
    refine ⟨_, rfl, _, "tuple", _, rfl, hty, kit7 hty (by simp), _, rfl, ?_⟩
    refine ite2 (fun g => by simp at g) (fun _ => ?_)
    walk_at "rk"
    refine for_it walk_enumT (fun i σ' H2 => Same H H2 ∧ ∃ o o' : Option V, σ' = [some (.ref a), o, o', none]) ⟨Same.refl _, none, none, rfl⟩ (fun i σ' H2 _ h2 => SqT.of (h2.1 _ _ ha)) ?_ ?_
    · rintro i x σ' H2 H3 hi ⟨e2, o, o', rfl⟩ ⟨p, x', y', rfl, np, rfl, e3, e4⟩
      obtain ⟨row, hrow, b, rfl, hb⟩ := prd_at1 hp e4
      have hb2 := e2 _ _ hb
      have npb : b ≠ p := ne_of_none hb2 np
      have hrm := S.row row (List.mem_of_getElem? hrow)
      cases e3
      refine ⟨p, _, rfl, SqT.of upd_same, rfl, _, _, rfl, _, _, rfl, rfl, ?_⟩
      have hb3 : (upd H2 p (.tup [.int (i : Nat), .ref b])) b = some (.tup (row.map V.int)) := (upd_ne npb).trans hb2
      have ha3 : (upd H2 p (.tup [.int (i : Nat), .ref b])) a = some (.tup vs) := (upd_ne (ne_of_none (e2 _ _ ha) np)).trans (e2 _ _ ha)
      have hrl : (row.length : Int) = vs.length := by rw [hrm.1, hl]
      have hi2 : i < vs.length := hi
      walk_at "rk"
      refine ⟨_, "tuple", _, rfl, ty_tup hb3, ?_⟩
      rw [tup_isTup hb3 (by rw [List.length_map]; exact hrl)]
      walk_at "rk"
      refine ⟨⟨_, SqT.of hb3⟩, ?_⟩
      intro D nD
      have hrow100 : row.length ≤ 6 := by omega
      refine lc_tup (K := K) (a := b) (xs := row.map V.int) (fun j H4 => H4 D = some (.lst ((List.replicate j true).map V.bl)) ∧ Same (upd H2 p (.tup [.int (i : Nat), .ref b])) H4) ⟨upd_same, same_new nD⟩ (fun j H4 _ h4 => SqT.of (h4.2 _ _ hb3)) ?_ ?_
      · rintro j z H4 hj ⟨q1, q2⟩
        obtain ⟨y, hy, rfl⟩ := map_at hj
        have hjl := (List.getElem?_eq_some_iff.mp hy).1
        have hym := hrm.2 y (List.mem_of_getElem? hy)
        refine ⟨rfl, ?_⟩
        refine yesT ?_
        walk_at "rr"
        rw [below_int hym.1 (by omega)]
        refine ⟨_, q1, ?_, ?_, same_upd q2 nD⟩
        · rw [List.length_map, List.length_replicate]; exact small1000 (by omega)
        · rw [upd_same, rep_snoc]
      · rintro H4 ⟨q1, q2⟩
        walk_at "rr"
        rw [rep_all]
        walk_at "rk"
        have hd0 := S.diag i row hrow
        refine ⟨b, _, (i : Nat), .int 0, rfl, rfl, SqT.of (q2 _ _ hb3), atI_nat (by rw [List.getElem?_map, hd0]; rfl), ?_⟩
        walk_at "rk"
        exact ⟨(same_upd e2 (e2.free np)).trans q2, _, _, rfl⟩
    · rintro σ' H2 ⟨e2, o, o', rfl⟩
      walk_at "rk"
      exact k H2 e2
theorem ok__is_prices (T : Top K mg) : Ok P w K mg base 5 "_is_prices" ["thing", "posts"] spIsPrices := by
  refine ok_of T.d__is_prices sc__is_prices (fun vs H Q E h => ?_) (fun f cdv A outer s H vs Q E hr h => ?_)
  · obtain ⟨v, row, n, top, rfl, _⟩ := h
    rfl
  · obtain ⟨v, row, n, top, rfl, ⟨a, rfl, ha⟩, S, h6, h9, k⟩ := h
    obtain ⟨f_is_tuple_of, fd_is_tuple_of, m_is_tuple_of, k_is_tuple_of, b_is_tuple_of, G_is_tuple_of⟩ := ok_is_tuple_of (P := P) (w := w) (base := base) T
    have hr_is_tuple_of : Room 1 _ := hr.mono (by decide)
    obtain ⟨f__is_price, fd__is_price, m__is_price, k__is_price, b__is_price, G__is_price⟩ := ok__is_price (P := P) (w := w) (base := base) T
    have hr__is_price : Room 4 _ := hr.mono (by decide)
    have hl : (row.length : Int) = n := S.len
    refine ⟨_, (pss_cons (ps_if (pt_not (pt_val (pe_call G_is_tuple_of hr_is_tuple_of rfl m_is_tuple_of k_is_tuple_of b_is_tuple_of .nil pass0 (pa_cons (pv 0) (pa_cons (pv 1) pa_nil)))))
      (pss_one (ps_ret pe_bl))
      pss_nil)
      (pss_cons (ps_setLc (i := 2) (own := [("price", 3)]) (g := gName 3) rfl sc__is_prices.nd rfl rfl (sw_true rfl rfl rfl (by decide +kernel)) (pi_tup (pv 0)) (blkOk_by (own := [("price", 3)]) (N := ["thing", "posts", "told", "price"]) (sc := defScope s__is_prices) (by decide +kernel)) (fun _ _ _ _ _ => (pg_name (i := 3) sc__is_prices.nd rfl (Or.inl rfl))) (fun _ _ _ _ _ => (pts_one (pt_cmpR op_notN (pv 3) pe_non (nomark _)))) (fun _ _ _ _ _ => (pv 3)))
      (pss_one (ps_ret (pe_and (pe_cmpR op_gt (pe_callB (id := "len") call_len_seq (by rfl) T.b_len (by decide +kernel) (pa_cons (pv 2) pa_nil)) pe_int (nomark _)) (pe_one (pe_callB (id := "all") (cr_all rfl) (by rfl) T.b_all (by decide +kernel) (pa_cons (pe_lc (own := [("price", 3)]) (g := gName 3) rfl sc__is_prices.nd (pi_list (pv 2)) (blkOk_by (own := [("price", 3)]) (N := ["thing", "posts", "told", "price"]) (sc := defScope s__is_prices) (by decide +kernel)) (fun _ _ _ _ _ => (pg_name (i := 3) sc__is_prices.nd rfl (Or.inl rfl))) (fun _ _ _ _ _ => pts_nil) (fun _ _ _ _ _ => (pe_call G__is_price hr__is_price rfl m__is_price k__is_price b__is_price .nil pass0 (pa_cons (pv 3) pa_nil)))) pa_nil)))))))), ?_⟩
    walk_at "rr"
    refine ⟨_, "tuple", _, rfl, ty_tup ha, ?_⟩
    rw [tup_isTup ha (by rw [List.length_map]; exact hl)]
    walk_at "rk"
    refine ⟨⟨_, SqT.of ha⟩, ?_⟩
    intro D nD
    refine lc_tup (K := K) (a := a) (xs := row.map vO) (fun i H2 => H2 D = some (.lst (((row.take i).filterMap id).map V.int)) ∧ Same H H2) ⟨upd_same, same_new nD⟩ (fun i H2 _ h2 => SqT.of (h2.2 _ _ ha)) ?_ ?_
    · rintro i x H2 hi ⟨e1, e2⟩
      obtain ⟨o, ho, rfl⟩ := map_at hi
      have hil := (List.getElem?_eq_some_iff.mp ho).1
      refine ⟨rfl, ?_⟩
      cases o with
      | none =>
        refine ⟨_, rfl, rfl, _, rfl, ite2 (fun g => absurd g (by decide)) (fun _ => ⟨?_, e2⟩)⟩
        rw [e1, List.take_add_one, ho, List.filterMap_append]
        simp
      | some y =>
        refine ⟨_, rfl, rfl, _, rfl, ite2 (fun _ => ?_) (fun g => absurd rfl g)⟩
        refine ⟨_, rfl, _, e1, ?_, ?_, same_upd e2 nD⟩
        · rw [List.length_map]
          exact small1000 (Nat.le_trans (List.length_filterMap_le _ _) (by rw [List.length_take]; omega))
        · rw [upd_same, List.take_add_one, ho, List.filterMap_append, List.map_append]
          rfl
    · rintro H2 ⟨e1, e2⟩
      rw [List.length_map, List.take_length] at e1
      obtain ⟨ns, hns⟩ : ∃ ns, row.filterMap id = ns := ⟨_, rfl⟩
      rw [hns] at e1
      have hpos : 0 < ns.length := by
        obtain ⟨x, hx⟩ := S.some
        have : x ∈ ns := by rw [← hns]; exact List.mem_filterMap.mpr ⟨some x, hx, rfl⟩
        exact List.length_pos_of_mem this
      have hlen : ns.length ≤ 6 := by
        rw [← hns]
        exact Nat.le_trans (List.length_filterMap_le _ _) (by omega)
      have hin : ∀ y ∈ ns, 0 ≤ y ∧ y ≤ top := fun y hy => by
        rw [← hns] at hy
        obtain ⟨o, ho, e⟩ := List.mem_filterMap.mp hy
        have e : o = some y := e
        subst e
        exact S.rng y ho
      walk_at "rk"
      rw [List.length_map]
      walk_at "rk"
      refine ⟨⟨_, SqL.of e1⟩, ?_⟩
      intro L nL
      refine lc_list (K := K) (a := D) (xs := ns.map V.int) (fun j H4 => H4 L = some (.lst ((List.replicate j true).map V.bl)) ∧ Same H2 H4) ⟨upd_same, same_new nL⟩ (fun j H4 _ h4 => SqL.of (h4.2 _ _ e1)) ?_ ?_
      · rintro j z H4 hj ⟨q1, q2⟩
        obtain ⟨y, hy, rfl⟩ := map_at hj
        have hjl := (List.getElem?_eq_some_iff.mp hy).1
        have hym := hin y (List.mem_of_getElem? hy)
        refine ⟨rfl, ?_⟩
        refine yesT ?_
        walk_at "rr"
        rw [below_int hym.1 (by omega)]
        refine ⟨_, q1, ?_, ?_, same_upd q2 nL⟩
        · rw [List.length_map, List.length_replicate]; exact small1000 (by omega)
        · rw [upd_same, rep_snoc]
      · rintro H4 ⟨q1, q2⟩
        walk_at "rr"
        rw [rep_all]
        exact k H4 (e2.trans q2)
end
end Toy

namespace Toy
open PySem PySem.Spec PyProof.Rows L2
local macro_rules | `(tactic| walk_at "hp") => `(tactic| first
  | assumption
  | exact upd_same
  | (refine Eq.trans (upd_ne (by first | assumption | (apply Ne.symm; assumption))) ?_; walk_at "hp"))
local macro_rules | `(tactic| walk_at "side") => `(tactic| first
  | exact .inl ⟨by omega, by omega⟩
  | exact .inr ⟨by omega, by omega⟩
  | exact ⟨by omega, by omega⟩
  | (show _ ≤ _; omega)
  | (show (_ : Int) < _; omega)
  | decide
  | assumption)
local macro_rules | `(tactic| walk_at "r") => `(tactic| first
  | refine ⟨_, rfl, ?_⟩
  | refine ⟨_, _, rfl, rfl, ?_⟩
  | refine ⟨_, _, _, _, rfl, rfl, SqL.of (by walk_at "hp"), rfl, ?_⟩
  | refine ⟨_, _, _, _, rfl, rfl, SqT.of (by walk_at "hp"), rfl, ?_⟩
  | refine ⟨_, _, _, _, rfl, rfl, (by walk_at "hp"), rfl, ?_⟩
  | refine And.intro rfl ?_
  | refine ⟨_, _, rfl, SqT.of (by walk_at "hp"), ?_⟩
  | refine ⟨_, _, rfl, SqL.of (by walk_at "hp"), ?_⟩
  | refine .inl ⟨_, rfl, ?_⟩
  | refine ⟨_, _, rfl, .inl (SqL.of (by walk_at "hp")), ?_⟩
  | refine ⟨_, _, rfl, .inr (SqT.of (by walk_at "hp")), ?_⟩
  | refine ⟨_, _, rfl, .inl ⟨SqL.of (by walk_at "hp"), ?_⟩⟩
  | refine And.intro (.inl ⟨rfl, _, SqL.of (by walk_at "hp")⟩) ?_
  | refine ⟨_, _, _, rfl, rfl, (by walk_at "hp"), ?_⟩
  | refine ⟨_, _, rfl, (by walk_at "hp"), ?_⟩
  | refine And.intro (by walk_at "side") ?_)
local macro_rules | `(tactic| walk_at "rr") => `(tactic| (repeat walk_at "r"))
local macro_rules | `(tactic| walk_at "k") => `(tactic| first
  | refine ite2 (fun _ => ?_) (fun g => absurd rfl g)
  | refine ite2 (fun g => absurd g (by decide)) (fun _ => ?_)
  | refine ite2 (fun _ => ?_) (fun g => absurd (decide_eq_true (by omega)) g)
  | refine ite2 (fun g => absurd (of_decide_eq_true g) (by omega)) (fun _ => ?_)
  | refine ite2 (fun g => (nd_t g (by omega)).elim) (fun _ => ?_)
  | refine ite2 (fun _ => ?_) (fun g => absurd (nd_f g) (by omega)))
local macro_rules | `(tactic| walk_at "rk") => `(tactic| (repeat (first | walk_at "r" | walk_at "k")))
section
variable {P : Program} {w : World} {K : PySem.W.Frag} {mg : Str → Option Value} {base : Heap}
theorem ok__is_requests (T : Top K mg) : Ok P w K mg base 6 "_is_requests" ["thing", "posts"] spIsRequests := by
  refine ok_of T.d__is_requests sc__is_requests (fun vs H Q E h => ?_) (fun f cdv A outer s H vs Q E hr h => ?_)
  · obtain ⟨d, kvs, rs, n, top, rfl, _⟩ := h
    rfl
  · obtain ⟨d, kvs, rs, n, top, rfl, hd, hR, nd, h1, h5, hP, h6, h9, k⟩ := h
    obtain ⟨t_MOST_REQUESTS, g_MOST_REQUESTS⟩ := T.g_MOST_REQUESTS
    obtain ⟨f__is_prices, fd__is_prices, m__is_prices, k__is_prices, b__is_prices, G__is_prices⟩ := ok__is_prices (P := P) (w := w) (base := base) T
    have hr__is_prices : Room 5 _ := hr.mono (by decide)
    obtain ⟨f_is_name, fd_is_name, m_is_name, k_is_name, b_is_name, G_is_name⟩ := ok_is_name (P := P) (w := w) (base := base) T
    have hr_is_name : Room 1 _ := hr.mono (by decide)
    have hu := hu_of hr
    have hl : kvs.length = rs.length := dct_len hR
    refine ⟨_, (pss_cons (ps_if (PW.pt (pw_or (pt_not (pt_val (pe_callB (id := "isinstance") (call_isN (T := "dict")) (by rfl) T.b_isinstance (by decide +kernel) (pa_cons (pv 0) (pa_cons (pe_bltn (v := .ty "dict") (u := .type "dict") (by rfl) T.b_dict (by decide +kernel) rfl) pa_nil))))) (pw_or1 (pt_not (pt_chain op_le op_le pe_int (pe_callB (id := "len") call_lenD (by rfl) T.b_len (by decide +kernel) (pa_cons (pv 0) pa_nil)) (pe_glob (v := .int 5) rfl g_MOST_REQUESTS ⟨_, rfl⟩))))))
      (pss_one (ps_ret pe_bl))
      pss_nil)
      (pss_one (ps_ret (pe_callB (id := "all") (cr_all rfl) (by rfl) T.b_all (by decide +kernel) (pa_cons (pe_lock (pe_lc (own := [("name", 2)]) (g := gName 2) rfl sc__is_requests.nd (pi_keys (pv 0)) (blkOk_by (own := [("name", 2)]) (N := ["thing", "posts", "name"]) (sc := defScope s__is_requests) (by decide +kernel)) (fun _ _ _ _ _ => (pg_name (i := 2) sc__is_requests.nd rfl (Or.inl rfl))) (fun _ _ _ _ _ => pts_nil) (fun _ _ _ _ _ => (pe_and (pe_call G_is_name hr_is_name rfl m_is_name k_is_name b_is_name .nil pass0 (pa_cons (pv 2) pa_nil)) (pe_one (pe_call G__is_prices hr__is_prices rfl m__is_prices k__is_prices b__is_prices .nil pass0 (pa_cons (pe_dget hu (pv 0) (pv 2) (fun _ _ => rfl)) (pa_cons (pv 1) pa_nil)))))))) pa_nil))))), ?_⟩
    refine ⟨_, rfl, _, "dict", _, rfl, ty_dK hd, kit7 (ty_dK hd) (by simp), _, rfl, ?_⟩
    walk_at "rk"
    refine ⟨d, _, hd, True.intro, fun od => ?_⟩
    refine ⟨_, rfl, d, od, rfl, .inl ⟨kvs, upd_same, fun D nD => ?_⟩⟩
    have nDd : D ≠ d := fun q => by subst q; rw [upd_same] at nD; cases nD
    have nDH : H D = none := by rw [upd_ne nDd] at nD; exact nD
    refine lc_it walk_keys (fun i H2 => H2 D = some (.lst ((List.replicate i true).map V.bl)) ∧ Same (upd H d (.frz od (.dK kvs))) H2) ⟨upd_same, same_new nD⟩ (fun i H2 _ h2 => h2.2 _ _ upd_same) ?_ ?_
    · rintro i x H2 H3 hi ⟨q1, q2⟩ ⟨rfl, ky, v, hkv, rfl⟩
      obtain ⟨⟨z, row⟩, hrow, ek, _⟩ := prd_at1 hR hkv
      have ek : ky = .inr z := ek
      subst ek
      have hm := List.mem_of_getElem? hrow
      have hPz := hP _ hm
      obtain ⟨v', hv', hO⟩ := dct_some hR nd hm
      have hO3 : OptT H3 v' row := OptT.firm H H3 _ _ (fun a xs e => q2 _ _ (by rw [upd_ne (ne_of e hd (by intro z; cases z))]; exact e)) hO
      refine ⟨rfl, ?_⟩
      refine yesT ?_
      refine ⟨_, rfl, .str z, "str", rfl, rfl, (fun y e => by cases e; have h8 : (z.length : Int) ≤ 8 := hPz.2.hi; exact Nat.le_of_lt (small1000 (by omega))), fun H4 s4 => ?_⟩
      rw [nm_of hPz.2]
      refine ⟨true, rfl, ?_⟩
      walk_at "k"
      refine ⟨_, rfl, _, rfl, d, v', rfl, .inl ⟨kvs, .inr z, .inr ⟨od, s4 _ _ (q2 _ _ upd_same)⟩, rfl, hv'.symm⟩, ?_⟩
      walk_at "rr"
      refine ⟨v', row, n, top, rfl, OptT.firm H3 H4 _ _ (same_tups s4) hO3, hPz.1, h6, h9, fun H5 s5 => ?_⟩
      refine ⟨_, s5 _ _ (s4 _ _ q1), ?_, ?_, same_upd ((q2.trans s4).trans s5) nD⟩
      · rw [List.length_map, List.length_replicate]
        have : i < kvs.length := hi
        exact small1000 (by omega)
      · rw [upd_same, rep_snoc]
    · rintro H2 ⟨q1, q2⟩
      have hd2 := q2 _ _ upd_same
      refine ⟨hd2, D, List.replicate kvs.length true, rfl, SqL.of ((upd_ne nDd).trans q1), ?_⟩
      rw [rep_all]
      refine k _ fun b o e => ?_
      by_cases eb : b = d
      · subst eb; rw [upd_same, ← e, hd]
      · rw [upd_ne eb]
        exact q2 b o (by rw [upd_ne eb]; exact e)
end
end Toy

namespace Toy
open PySem PySem.Spec PyProof.Rows L2
local macro_rules | `(tactic| walk_at "hp") => `(tactic| first
  | assumption
  | exact upd_same
  | (refine Eq.trans (upd_ne (by first | assumption | (apply Ne.symm; assumption))) ?_; walk_at "hp"))
local macro_rules | `(tactic| walk_at "side") => `(tactic| first
  | exact .inl ⟨by omega, by omega⟩
  | exact .inr ⟨by omega, by omega⟩
  | exact ⟨by omega, by omega⟩
  | (show _ ≤ _; omega)
  | (show (_ : Int) < _; omega)
  | decide
  | assumption)
local macro_rules | `(tactic| walk_at "r") => `(tactic| first
  | refine ⟨_, rfl, ?_⟩
  | refine ⟨_, _, rfl, rfl, ?_⟩
  | refine ⟨_, _, _, _, rfl, rfl, SqL.of (by walk_at "hp"), rfl, ?_⟩
  | refine ⟨_, _, _, _, rfl, rfl, SqT.of (by walk_at "hp"), rfl, ?_⟩
  | refine ⟨_, _, _, _, rfl, rfl, (by walk_at "hp"), rfl, ?_⟩
  | refine And.intro rfl ?_
  | refine ⟨_, _, rfl, SqT.of (by walk_at "hp"), ?_⟩
  | refine ⟨_, _, rfl, SqL.of (by walk_at "hp"), ?_⟩
  | refine .inl ⟨_, rfl, ?_⟩
  | refine ⟨_, _, rfl, .inl (SqL.of (by walk_at "hp")), ?_⟩
  | refine ⟨_, _, rfl, .inr (SqT.of (by walk_at "hp")), ?_⟩
  | refine ⟨_, _, rfl, .inl ⟨SqL.of (by walk_at "hp"), ?_⟩⟩
  | refine And.intro (.inl ⟨rfl, _, SqL.of (by walk_at "hp")⟩) ?_
  | refine ⟨_, _, _, rfl, rfl, (by walk_at "hp"), ?_⟩
  | refine ⟨_, _, rfl, (by walk_at "hp"), ?_⟩
  | refine And.intro (by walk_at "side") ?_)
local macro_rules | `(tactic| walk_at "rr") => `(tactic| (repeat walk_at "r"))
local macro_rules | `(tactic| walk_at "k") => `(tactic| first
  | refine ite2 (fun _ => ?_) (fun g => absurd rfl g)
  | refine ite2 (fun g => absurd g (by decide)) (fun _ => ?_)
  | refine ite2 (fun _ => ?_) (fun g => absurd (decide_eq_true (by omega)) g)
  | refine ite2 (fun g => absurd (of_decide_eq_true g) (by omega)) (fun _ => ?_)
  | refine ite2 (fun g => (nd_t g (by omega)).elim) (fun _ => ?_)
  | refine ite2 (fun _ => ?_) (fun g => absurd (nd_f g) (by omega)))
local macro_rules | `(tactic| walk_at "rk") => `(tactic| (repeat (first | walk_at "r" | walk_at "k")))
section
variable {P : Program} {w : World} {K : PySem.W.Frag} {mg : Str → Option Value} {base : Heap}
theorem ok_least_ways (T : Top K mg) : Ok P w K mg base 1 "least_ways" ["moves"] spLeastWays := by
  refine ok_of T.d_least_ways sc_least_ways (fun vs H Q E h => ?_) (fun f cdv A outer s H vs Q E hr h => ?_)
  · obtain ⟨v, rows, n, top, rfl, _⟩ := h
    rfl
  · obtain ⟨v, rows, n, top, rfl, ⟨a, vs, rfl, ha, hp⟩, S, h1, h6, k⟩ := h
    have hl : (vs.length : Int) = n := by rw [prd_len hp]; exact S.len
    refine ⟨_, (pss_cons (ps_setLc (i := 1) (own := [("prices", 6)]) (g := gName 6) rfl sc_least_ways.nd rfl rfl (sw_true rfl rfl rfl (by decide +kernel)) (pi_tup (pv 0)) (blkOk_by (own := [("prices", 6)]) (N := ["moves", "ways", "posts", "middle", "start", "end", "prices", "row"]) (sc := defScope s_least_ways) (by decide +kernel)) (fun _ _ _ _ _ => (pg_name (i := 6) sc_least_ways.nd rfl (Or.inl rfl))) (fun _ _ _ _ _ => pts_nil) (fun _ _ _ _ _ => (pe_callTy (T := "list") (call_list_of : CallR _ _ (rListOf K)) (by rfl) T.b_list (by decide +kernel) (pa_cons (pv 6) pa_nil))))
      (pss_cons (ps_set (i := 2) sc_least_ways.nd rfl (Or.inl rfl) (pe_callTy (T := "range") cr_rng1 (by rfl) T.b_range (by decide +kernel) (pa_cons (pe_callB (id := "len") call_len_seq (by rfl) T.b_len (by decide +kernel) (pa_cons (pv 0) pa_nil)) pa_nil)))
      (pss_cons (ps_for PassesOwn.never rfl (pi_rngV (pv 2)) (pg_name (i := 3) sc_least_ways.nd rfl (Or.inl rfl))
      (pss_one (ps_for PassesOwn.never rfl (pi_rngV (pv 2)) (pg_name (i := 4) sc_least_ways.nd rfl (Or.inl rfl))
      (pss_one (ps_for PassesOwn.never rfl (pi_rngV (pv 2)) (pg_name (i := 5) sc_least_ways.nd rfl (Or.inl rfl))
      (pss_one (ps_asg (pe_callB (id := "min") (call_min2 rfl) (by rfl) T.b_min (by decide +kernel) (pa_cons (pe_ix ix_list (pe_ix ix_list (pv 1) (pv 4) (fun _ _ => rfl)) (pv 5) (fun _ _ => rfl)) (pa_cons (pe_op op_add (pe_ix ix_list (pe_ix ix_list (pv 1) (pv 4) (fun _ _ => rfl)) (pv 3) (fun _ _ => rfl)) (pe_ix ix_list (pe_ix ix_list (pv 1) (pv 3) (fun _ _ => rfl)) (pv 5) (fun _ _ => rfl))) pa_nil))) (pg_sub (pe_ix ix_list (pv 1) (pv 4) (fun _ _ => rfl)) (pv 5) set_list))))))))
      (pss_one (ps_ret (pe_callTy (T := "tuple") call_tuple_of (by rfl) T.b_tuple (by decide +kernel) (pa_cons (pe_lc (own := [("row", 7)]) (g := gName 7) rfl sc_least_ways.nd (pi_list (pv 1)) (blkOk_by (own := [("row", 7)]) (N := ["moves", "ways", "posts", "middle", "start", "end", "prices", "row"]) (sc := defScope s_least_ways) (by decide +kernel)) (fun _ _ _ _ _ => (pg_name (i := 7) sc_least_ways.nd rfl (Or.inl rfl))) (fun _ _ _ _ _ => pts_nil) (fun _ _ _ _ _ => (pe_callTy (T := "tuple") (call_tuple_of : CallR _ _ (rTupOf K)) (by rfl) T.b_tuple (by decide +kernel) (pa_cons (pv 7) pa_nil)))) pa_nil))))))), ?_⟩
    walk_at "rr"
    refine ⟨⟨_, SqT.of ha⟩, ?_⟩
    intro L nL
    have nLa : a ≠ L := ne_of_none ha nL
    refine lc_tup (K := K) (a := a) (xs := vs) (fun i H2 => ∃ as : List Addr, H2 L = some (.lst (as.map V.ref)) ∧ as.length = i ∧ as.Nodup ∧ L ∉ as ∧ (∀ b ∈ as, H b = none) ∧ (∀ (j : Nat) b, as[j]? = some b → H2 b = some (.lst (rowV n.toNat (mat rows j)))) ∧ Same H H2)
      ⟨[], upd_same, rfl, .nil, by simp, by simp, by simp, same_new nL⟩ (fun i H2 _ ⟨_, _, _, _, _, _, _, q⟩ => SqT.of (q _ _ ha)) ?_ ?_
    · rintro i x H2 hi ⟨as, e1, e2, e3, e4, e5, e6, e7⟩
      obtain ⟨row, hrow, b, rfl, hb⟩ := prd_at1 hp hi
      have hb2 := e7 _ _ hb
      refine ⟨rfl, ?_⟩
      refine yesT ?_
      refine ⟨_, rfl, b, _, rfl, .inr (SqT.of hb2), fun t nt => ?_⟩
      have ntL : L ≠ t := ne_of_none e1 nt
      have ntH := e7.free nt
      have ntas : t ∉ as := fun m => by
        obtain ⟨j, hj⟩ := List.mem_iff_getElem?.mp m
        rw [e6 j t hj] at nt; cases nt
      refine ⟨_, (upd_ne ntL).trans e1, ?_, as ++ [t], ?_, ?_, ?_, ?_, ?_, ?_, ?_⟩
      · rw [List.length_map]; have := (List.getElem?_eq_some_iff.mp hi).1; exact small1000 (by omega)
      · rw [upd_same, List.map_append]; rfl
      · rw [List.length_append, e2]; rfl
      · exact nd_snoc e3 ntas
      · intro m
        rcases List.mem_append.mp m with q | q
        · exact e4 q
        · exact ntL (List.mem_singleton.mp q)
      · intro c hc
        rcases List.mem_append.mp hc with q | q
        · exact e5 c q
        · rw [List.mem_singleton.mp q]; exact ntH
      · intro j c hc
        by_cases hj : j < as.length
        · rw [List.getElem?_append_left hj] at hc
          have hcm := List.mem_of_getElem? hc
          have hcL : c ≠ L := fun q => e4 (q ▸ hcm)
          have hct : c ≠ t := fun q => ntas (q ▸ hcm)
          rw [upd_ne hcL, upd_ne hct]
          exact e6 j c hc
        · have hj2 : j = as.length := by
            have := (List.getElem?_eq_some_iff.mp hc).1
            rw [List.length_append] at this
            simp at this
            omega
          subst hj2
          rw [List.getElem?_append_right (Nat.le_refl _), Nat.sub_self] at hc
          obtain rfl := Option.some.inj (show some t = some c from hc)
          rw [upd_ne ntL.symm, upd_same]
          have hrm := S.row row (List.mem_of_getElem? hrow)
          rw [rowV_of (n := n.toNat) (by omega), e2]
          congr 2
          unfold rowV
          apply List.map_congr_left
          intro q _
          rw [mat_at hrow]
      · exact same_upd (same_upd e7 ntH) nL
    · rintro H2 ⟨as, e1, e2, e3, e4, e5, e6, e7⟩
      have ha2 := e7 _ _ ha
      walk_at "rr"
      intro r nr
      have hrH := e7.free nr
      have hrL : r ≠ L := fun q => by subst q; rw [e1] at nr; cases nr
      have en : ((vs.length : Int) - 0).toNat = n.toNat := by omega
      have M0 : MatAt (upd H2 r (.rng 0 vs.length)) L as n.toNat (mat rows) := by
        refine ⟨(upd_ne hrL.symm).trans e1, by omega, e3, e4, fun i b hb => ?_⟩
        have hbm := List.mem_of_getElem? hb
        have hbr : b ≠ r := fun q => by subst q; rw [e6 i b hb] at nr; cases nr
        rw [upd_ne hbr]
        exact e6 i b hb
      have T0 : Tri n.toNat (mat rows) 0 := ⟨S.z, S.nn, fun i j k' _ _ hk => absurd hk (Nat.not_lt_zero _)⟩
      refine ⟨_, rfl, r, 0, _, rfl, upd_same, by omega, by omega, by omega, by omega, ?_⟩
      refine for_range (lo := 0) (n := ((vs.length : Int) - 0).toNat) (fun m σ' H3 => ∃ (M : Nat → Nat → Int) (o3 o4 o5 : Option V), σ' = [some (.ref a), some (.ref L), some (.ref r), o3, o4, o5, none, none] ∧ H3 r = some (.rng 0 vs.length) ∧ MatAt H3 L as n.toNat M ∧
          Tri n.toNat M m ∧ Snd n.toNat (mat rows) M ∧ (∀ i j, i < n.toNat → j < n.toNat → M i j ≤ mat rows i j) ∧ Same H H3)
        ⟨_, none, none, none, rfl, upd_same, M0, T0, Snd.self, fun i j _ _ => Int.le_refl _, same_upd e7 hrH⟩ ?_ ?_
      · rintro m σ' H3 hm ⟨M, o3, o4, o5, rfl, hr3, hM, hT, hS, hle, s3⟩
        have hm' : m < n.toNat := by omega
        refine ⟨_, rfl, r, 0, _, rfl, hr3, by omega, by omega, by omega, by omega, ?_⟩
        refine for_range (lo := 0) (n := ((vs.length : Int) - 0).toNat) (fun st σ' H4 => ∃ (o4 o5 : Option V), σ' = [some (.ref a), some (.ref L), some (.ref r), some (.int (m : Nat)), o4, o5, none, none] ∧ H4 r = some (.rng 0 vs.length) ∧
            MatAt H4 L as n.toNat (fun i j => if i < st then ph M m i j else M i j) ∧ Same H H4)
          ⟨o4, o5, by simp, hr3, hM.ext fun i j _ _ => by simp, s3⟩ ?_ ?_
        · rintro st σ' H4 hst ⟨o4, o5, rfl, hr4, hM4, s4⟩
          have hst' : st < n.toNat := by omega
          refine ⟨_, rfl, r, 0, _, rfl, hr4, by omega, by omega, by omega, by omega, ?_⟩
          refine for_range (lo := 0) (n := ((vs.length : Int) - 0).toNat) (fun e σ' H5 => ∃ (o5 : Option V), σ' = [some (.ref a), some (.ref L), some (.ref r), some (.int (m : Nat)), some (.int (st : Nat)), o5, none, none] ∧ H5 r = some (.rng 0 vs.length) ∧
              MatAt H5 L as n.toNat (fun i j => if i < st ∨ (i = st ∧ j < e) then ph M m i j else M i j) ∧ Same H H5)
            ⟨o5, by simp, hr4, hM4.ext fun i j _ _ => by simp, s4⟩ ?_ ?_
          · rintro e σ' H5 he ⟨o5, rfl, hr5, hM5, s5⟩
            have he' : e < n.toNat := by omega
            obtain ⟨as1, has1⟩ : ∃ b, as[st]? = some b := ⟨_, List.getElem?_eq_getElem (by rw [hM5.len]; omega)⟩
            obtain ⟨am1, ham1⟩ : ∃ b, as[m]? = some b := ⟨_, List.getElem?_eq_getElem (by rw [hM5.len]; omega)⟩
            have r1 := hM5.row st as1 has1
            have r2 := hM5.row m am1 ham1
            have hL5 := hM5.ws
            have p1 : ph M m st m = M st m := by
              have h0 := hT.z m hm'
              unfold ph; rw [h0]; split <;> omega
            have p2 : ph M m m e = M m e := by
              have h0 := hT.z m hm'
              unfold ph; rw [h0]; split <;> omega
            have nas : as1 ≠ r := fun q => by subst q; rw [r1] at hr5; cases hr5
            rw [Int.zero_add]
            refine ⟨_, rfl, _, rfl, L, _, (st : Nat), _, rfl, rfl, SqL.of hL5, atI_nat (by rw [List.getElem?_map, has1]; rfl), _, rfl, as1, _, (e : Nat), _, rfl, rfl, SqL.of r1, atI_nat (rowV_at he'), ?_⟩
            refine ⟨_, rfl, _, rfl, L, _, (st : Nat), _, rfl, rfl, SqL.of hL5, atI_nat (by rw [List.getElem?_map, has1]; rfl), _, rfl, as1, _, (m : Nat), _, rfl, rfl, SqL.of r1, atI_nat (rowV_at hm'), ?_⟩
            refine ⟨_, rfl, _, rfl, L, _, (m : Nat), _, rfl, rfl, SqL.of hL5, atI_nat (by rw [List.getElem?_map, ham1]; rfl), _, rfl, am1, _, (e : Nat), _, rfl, rfl, SqL.of r2, atI_nat (rowV_at he'), ?_⟩
            refine ⟨_, _, rfl, rfl, _, _, rfl, ?_⟩
            refine ⟨_, rfl, _, rfl, L, _, (st : Nat), _, rfl, rfl, SqL.of hL5, atI_nat (by rw [List.getElem?_map, has1]; rfl), _, rfl, as1, _, (e : Nat), e, rfl, rfl, r1, ?_, ?_⟩
            · unfold ixN
              rw [rowV_len, if_pos (by omega), if_pos (by omega)]
              rfl
            rw [rowV_set]
            refine ⟨_, rfl, (upd_ne nas.symm).trans hr5, (hM5.set has1).ext fun i j hi hj => ?_, same_upd s5 (e5 as1 (List.mem_of_getElem? has1))⟩
            have c1 : (if st < st ∨ st = st ∧ e < e then ph M m st e else M st e) = M st e := by simp
            have c2 : (if st < st ∨ st = st ∧ m < e then ph M m st m else M st m) = M st m := by rw [p1]; simp
            have c3 : (if m < st ∨ m = st ∧ e < e then ph M m m e else M m e) = M m e := by rw [p2]; simp
            rw [c1, c2, c3]
            by_cases hij : i = st ∧ j = e
            · obtain ⟨rfl, rfl⟩ := hij
              rw [if_pos ⟨rfl, rfl⟩, if_pos (c := i < i ∨ i = i ∧ j < j + 1) (.inr ⟨rfl, Nat.lt_succ_self _⟩)]
              rfl
            · rw [if_neg hij]
              by_cases hq : i < st ∨ (i = st ∧ j < e)
              · rw [if_pos hq, if_pos (by omega)]
              · rw [if_neg hq, if_neg (by omega)]
          · rintro σ' H5 ⟨o5, rfl, hr5, hM5, s5⟩
            refine ⟨_, _, rfl, hr5, hM5.ext fun i j hi hj => ?_, s5⟩
            by_cases hq : i < st ∨ (i = st ∧ j < ((vs.length : Int) - 0).toNat)
            · rw [if_pos hq, if_pos (by omega)]
            · rw [if_neg hq, if_neg (by omega)]
        · rintro σ' H4 ⟨o4, o5, rfl, hr4, hM4, s4⟩
          refine ⟨ph M m, _, _, _, rfl, hr4, hM4.ext fun i j hi hj => by rw [if_pos (by omega)], hT.ph hm', hS.ph hm', fun i j hi hj => ?_, s4⟩
          exact Int.le_trans (@ph_le M m i j).1 (hle i j hi hj)
      · rintro σ' H3 ⟨M, o3, o4, o5, rfl, hr3, hM, hT, hS, hle, s3⟩
        rw [en] at hT
        have hLst := Least.of hT hS hle
        have hL5 := hM.ws
        refine ⟨_, rfl, L, rfl, ⟨_, SqL.of hL5⟩, fun D nD => ?_⟩
        have hDL : L ≠ D := ne_of_none hL5 nD
        refine lc_list (K := K) (a := L) (xs := as.map V.ref) (fun i H4 => ∃ ts : List V, H4 D = some (.lst ts) ∧ Paired (IntT H4) ts ((List.range i).map fun q => (List.range n.toNat).map (M q)) ∧ MatAt H4 L as n.toNat M ∧ Same H3 H4)
          ⟨[], upd_same, .nil, ?_, same_new nD⟩ (fun i H4 _ ⟨_, _, _, q, _⟩ => SqL.of q.ws) ?_ ?_
        · exact ⟨(upd_ne hDL).trans hL5, hM.len, hM.nd, hM.nw, fun i b hb => (upd_ne (ne_of_none (hM.row i b hb) nD)).trans (hM.row i b hb)⟩
        · rintro i x H4 hi ⟨ts, q1, q2, q3, q4⟩
          obtain ⟨b, hb, rfl⟩ := map_at hi
          have hrow := q3.row i b hb
          have hil := (List.getElem?_eq_some_iff.mp hb).1
          refine ⟨rfl, ?_⟩
          refine yesT ?_
          refine ⟨_, rfl, b, _, rfl, .inl ⟨SqL.of hrow, fun t nt => ?_⟩⟩
          have ntD : t ≠ D := fun q => by subst q; rw [q1] at nt; cases nt
          have hF : ∀ c xs, H4 c = some (.tup xs) → (upd (upd H4 t (.tup (rowV n.toNat (M i)))) D (.lst (ts ++ [V.ref t]))) c = some (.tup xs) := fun c xs e => by
            rw [upd_ne (ne_of e q1 (by intro z; cases z)), upd_ne (ne_of_none e nt)]; exact e
          refine ⟨_, (upd_ne ntD.symm).trans q1, ?_, ts ++ [.ref t], upd_same, ?_, ?_, ?_⟩
          · rw [prd_len q2, List.length_map, List.length_range]
            have := hM.len
            exact small1000 (by omega)
          · rw [List.range_succ, List.map_append]
            refine Paired.snoc (prd_imp q2 fun x y r => IntT.firm H4 _ x y hF r) ⟨t, rfl, ?_⟩
            rw [upd_ne ntD, upd_same, rowV_ints]
          · have hLt : L ≠ t := ne_of_none q3.ws nt
            refine ⟨(upd_ne hDL).trans ((upd_ne hLt).trans q3.ws), q3.len, q3.nd, q3.nw, fun j c hc => ?_⟩
            have hcr := q3.row j c hc
            have hcD : c ≠ D := ne_of_none (hM.row j c hc) nD
            exact (upd_ne hcD).trans ((upd_ne (ne_of_none hcr nt)).trans hcr)
          · exact same_upd (same_upd q4 (q4.free nt)) nD
        · rintro H4 ⟨ts, q1, q2, q3, q4⟩
          refine ⟨D, _, rfl, .inl ⟨SqL.of q1, fun t nt => ?_⟩⟩
          rw [List.length_map, hM.len] at q2
          refine k _ ((List.range n.toNat).map fun q => (List.range n.toNat).map (M q)) _ ((s3.trans q4).trans (same_new nt)) ⟨t, ts, rfl, upd_same, prd_imp q2 fun x y r => IntT.firm H4 _ x y (same_tups (same_new nt)) r⟩ ⟨?_, ?_, ?_⟩
          · rw [List.length_map, List.length_range]; omega
          · intro r hr
            obtain ⟨q, _, rfl⟩ := List.mem_map.mp hr
            rw [List.length_map, List.length_range]; omega
          · have em : ∀ i j, i < n.toNat → j < n.toNat → mat ((List.range n.toNat).map fun q => (List.range n.toNat).map (M q)) i j = M i j := fun i j hi hj => by
              rw [mat_at (r := (List.range n.toNat).map (M i)) (by rw [List.getElem?_map, List.getElem?_range hi]; rfl)]
              rw [List.getD_eq_getElem?_getD, List.getElem?_map, List.getElem?_range hj]
              rfl
            refine ⟨fun i j hi hj => ?_, fun i j l hi hj w => ?_⟩
            · rw [em i j hi hj]; exact hLst.has i j hi hj
            · rw [em i j hi hj]; exact hLst.le i j l hi hj w
end
end Toy

namespace Toy
open PySem PySem.Spec PyProof.Rows L2
local macro_rules | `(tactic| walk_at "hp") => `(tactic| first
  | assumption
  | exact upd_same
  | (refine Eq.trans (upd_ne (by first | assumption | (apply Ne.symm; assumption))) ?_; walk_at "hp"))
local macro_rules | `(tactic| walk_at "side") => `(tactic| first
  | exact .inl ⟨by omega, by omega⟩
  | exact .inr ⟨by omega, by omega⟩
  | exact ⟨by omega, by omega⟩
  | (show _ ≤ _; omega)
  | (show (_ : Int) < _; omega)
  | decide
  | assumption)
local macro_rules | `(tactic| walk_at "r") => `(tactic| first
  | refine ⟨_, rfl, ?_⟩
  | refine ⟨_, _, rfl, rfl, ?_⟩
  | refine ⟨_, _, _, _, rfl, rfl, SqL.of (by walk_at "hp"), rfl, ?_⟩
  | refine ⟨_, _, _, _, rfl, rfl, SqT.of (by walk_at "hp"), rfl, ?_⟩
  | refine ⟨_, _, _, _, rfl, rfl, (by walk_at "hp"), rfl, ?_⟩
  | refine And.intro rfl ?_
  | refine ⟨_, _, rfl, SqT.of (by walk_at "hp"), ?_⟩
  | refine ⟨_, _, rfl, SqL.of (by walk_at "hp"), ?_⟩
  | refine .inl ⟨_, rfl, ?_⟩
  | refine ⟨_, _, rfl, .inl (SqL.of (by walk_at "hp")), ?_⟩
  | refine ⟨_, _, rfl, .inr (SqT.of (by walk_at "hp")), ?_⟩
  | refine ⟨_, _, rfl, .inl ⟨SqL.of (by walk_at "hp"), ?_⟩⟩
  | refine And.intro (.inl ⟨rfl, _, SqL.of (by walk_at "hp")⟩) ?_
  | refine ⟨_, _, _, rfl, rfl, (by walk_at "hp"), ?_⟩
  | refine ⟨_, _, rfl, (by walk_at "hp"), ?_⟩
  | refine And.intro (by walk_at "side") ?_)
local macro_rules | `(tactic| walk_at "rr") => `(tactic| (repeat walk_at "r"))
local macro_rules | `(tactic| walk_at "k") => `(tactic| first
  | refine ite2 (fun _ => ?_) (fun g => absurd rfl g)
  | refine ite2 (fun g => absurd g (by decide)) (fun _ => ?_)
  | refine ite2 (fun _ => ?_) (fun g => absurd (decide_eq_true (by omega)) g)
  | refine ite2 (fun g => absurd (of_decide_eq_true g) (by omega)) (fun _ => ?_)
  | refine ite2 (fun g => (nd_t g (by omega)).elim) (fun _ => ?_)
  | refine ite2 (fun _ => ?_) (fun g => absurd (nd_f g) (by omega)))
local macro_rules | `(tactic| walk_at "rk") => `(tactic| (repeat (first | walk_at "r" | walk_at "k")))
section
variable {P : Program} {w : World} {K : PySem.W.Frag} {mg : Str → Option Value} {base : Heap}
theorem ok_SystemZ_initZ (T : Top K mg) : OkI P w K mg base CX0 7 "System" T.c_System ["self", "moves", "requests"] (spSystem T.c_System) := by
  refine okI_of T.mg_System T.i_System sc_SystemZ_initZ (fun vs H Q E h => ?_) (fun f cdv A outer s H vs Q E hr h => ?_)
  · obtain ⟨p, dx, mv, d, rows, kvs, rs, n, rfl, _⟩ := h
    rfl
  · obtain ⟨p, dx, mv, d, rows, kvs, rs, n, rfl, hp, hmv, sq, h1, h6, hd, hR, nd, r1, r5, hP, k⟩ := h
    obtain ⟨f_is_moves, fd_is_moves, m_is_moves, k_is_moves, b_is_moves, G_is_moves⟩ := ok_is_moves (P := P) (w := w) (base := base) T
    have hr_is_moves : Room 5 _ := hr.mono (by decide)
    obtain ⟨f__is_requests, fd__is_requests, m__is_requests, k__is_requests, b__is_requests, G__is_requests⟩ := ok__is_requests (P := P) (w := w) (base := base) T
    have hr__is_requests : Room 6 _ := hr.mono (by decide)
    obtain ⟨f_least_ways, fd_least_ways, m_least_ways, k_least_ways, b_least_ways, G_least_ways⟩ := ok_least_ways (P := P) (w := w) (base := base) T
    have hr_least_ways : Room 1 _ := hr.mono (by decide)
    have hu := hu_of hr
    refine ⟨_, (pss_cons (ps_if (pt_not (pt_val (pe_call G_is_moves hr_is_moves rfl m_is_moves k_is_moves b_is_moves .nil pass0 (pa_cons (pv 1) pa_nil))))
      (pss_one (ps_never))
      pss_nil)
      (pss_cons (ps_if (pt_not (pt_val (pe_call G__is_requests hr__is_requests rfl m__is_requests k__is_requests b__is_requests .nil pass0 (pa_cons (pv 2) (pa_cons (pe_callB (id := "len") call_len_seq (by rfl) T.b_len (by decide +kernel) (pa_cons (pv 1) pa_nil)) pa_nil)))))
      (pss_one (ps_never))
      pss_nil)
      (pss_cons (ps_fld (pv 0) (pv 1) rfl)
      (pss_cons (ps_fld (pv 0) (pe_callB (id := "len") call_len_seq (by rfl) T.b_len (by decide +kernel) (pa_cons (pv 1) pa_nil)) rfl)
      (pss_cons (ps_fld (pv 0) (pe_callTy (T := "tuple") call_tuple_of (by rfl) T.b_tuple (by decide +kernel) (pa_cons (pe_callB (id := "sorted") (call_sortedD rfl) (by rfl) T.b_sorted (by decide +kernel) (pa_cons (pv 2) pa_nil)) pa_nil)) rfl)
      (pss_cons (ps_fld (pv 0) (pe_call G_least_ways hr_least_ways rfl m_least_ways k_least_ways b_least_ways .nil pass0 (pa_cons (pv 1) pa_nil)) rfl)
      (pss_one (ps_fld (pv 0) (pe_dc (own := [("name", 3)]) (g := gName 3) rfl sc_SystemZ_initZ.nd (pi_tup (pe_fld (pv 0) rfl)) (blkOk_by (own := [("name", 3)]) (N := ["self", "moves", "requests", "name"]) (sc := defScope s_SystemZ_initZ) (by decide +kernel)) (fun _ _ _ _ _ => (pg_name (i := 3) sc_SystemZ_initZ.nd rfl (Or.inl rfl))) (fun _ _ _ _ _ => pts_nil) (fun _ _ _ _ _ => (pv 3)) (fun _ _ _ _ _ => (pe_dget hu (pv 2) (pv 3) (fun _ _ => rfl)))) rfl)))))))), ?_⟩
    refine ⟨_, rfl, mv, rows, n, 9, rfl, hmv, sq, h1, h6, by decide, fun H1 s1 => ⟨_, rfl, ?_⟩⟩
    walk_at "rk"
    obtain ⟨ma, mvs, rfl, hma, hmp⟩ := hmv
    have hml : (mvs.length : Int) = n := by rw [prd_len hmp]; exact sq.len
    have hma1 := s1 _ _ hma
    have hd1 := s1 _ _ hd
    walk_at "rk"
    refine ⟨d, kvs, rs, n, 9, ?_, hd1, hR.firm OptT.firm (same_tups s1), nd, r1, r5, hP, h6, by decide, fun H2 s2 => ⟨_, rfl, ?_⟩⟩
    · rw [hml]; rfl
    have hp2 := s2 _ _ (s1 _ _ hp)
    have hma2 := s2 _ _ hma1
    have hd2 := s2 _ _ hd1
    have hR2 : DctOf OptT H2 kvs rs := hR.firm OptT.firm (same_tups (s1.trans s2))
    have nma : ma ≠ p := ne_of hma hp (by intro z; cases z)
    have ndp : d ≠ p := ne_of hd hp (by intro z; cases z)
    walk_at "rk"
    -- the attributes
    refine ⟨p, T.c_System, dx, _, rfl, hp2, T.cl_System, T.na_System_moves, (by show 0 < 1000; decide), ?_⟩
    walk_at "rr"
    refine ⟨p, T.c_System, dx, _, rfl, upd_same, T.cl_System, T.na_System_posts, (by have := putF_len "moves" (.ref ma) []; exact Nat.lt_of_le_of_lt this (by decide)), ?_⟩
    rw [upd_upd]
    refine ⟨_, rfl, d, kvs, rs.map (·.1), rfl, .inl ((upd_ne ndp).trans hd2), dct_keys hR, (by rw [List.length_map]; omega), fun ys l hperm hsort nl => ?_⟩
    have npl : p ≠ l := fun q => by subst q; rw [upd_same] at nl; cases nl
    have nl2 : H2 l = none := by rw [upd_ne npl.symm] at nl; exact nl
    refine ⟨l, _, rfl, .inl ⟨SqL.of upd_same, fun t nt => ?_⟩⟩
    have ntl : t ≠ l := fun q => by subst q; rw [upd_same] at nt; cases nt
    rw [upd_ne ntl] at nt
    have npt : p ≠ t := fun q => by subst q; rw [upd_same] at nt; cases nt
    have nt2 : H2 t = none := by rw [upd_ne npt.symm] at nt; exact nt
    refine ⟨_, rfl, p, T.c_System, dx, _, rfl, (upd_ne npt).trans ((upd_ne npl).trans upd_same), T.cl_System, T.na_System_names, (by
      have q1 := putF_len "posts" (.int mvs.length) (putF "moves" (.ref ma) [])
      have q2 := putF_len "moves" (.ref ma) []
      have q3 : ([] : List (Str × V)).length = 0 := rfl
      omega), ?_⟩
    have hmv3 : ∀ {a b c d' : HO}, TupT IntT (upd (upd (upd (upd H2 p a) l b) t c) p d') (.ref ma) rows := fun {a b c d'} =>
      ⟨ma, mvs, rfl, keep4 nl2 nt2 _ _ nma hma2, prd_imp hmp fun x y r => IntT.firm H _ x y (fun e xs q => keep4 nl2 nt2 _ _ (ne_of q hp (by intro z; cases z)) (s2 _ _ (s1 _ _ q))) r⟩
    refine ⟨_, rfl, .ref ma, rows, n, 9, rfl, hmv3, sq, h1, by omega, fun wv ws H4 s4 hwv hW => ?_⟩
    have q2 := putF_len "moves" (.ref ma) []
    have q1 := putF_len "posts" (.int mvs.length) (putF "moves" (.ref ma) [])
    have q0 := putF_len "names" (.ref t) (putF "posts" (.int mvs.length) (putF "moves" (.ref ma) []))
    have q9 := putF_len "ways" wv (putF "names" (.ref t) (putF "posts" (.int mvs.length) (putF "moves" (.ref ma) [])))
    have q3 : ([] : List (Str × V)).length = 0 := rfl
    refine ⟨_, rfl, p, T.c_System, dx, _, rfl, s4 _ _ upd_same, T.cl_System, T.na_System_ways, by omega, ?_⟩
    have ht4 : H4 t = some (.tup (ys.map V.str)) := s4 _ _ ((upd_ne npt.symm).trans upd_same)
    have hd4 : H4 d = some (.dK kvs) := s4 _ _ (keep4 nl2 nt2 _ _ ndp hd2)
    have hR4 : DctOf OptT H4 kvs rs := hR2.firm OptT.firm fun e xs q => s4 _ _ (keep4 nl2 nt2 _ _ (ne_of q hp2 (by intro z; cases z)) q)
    have hmv4 : TupT IntT H4 (.ref ma) rows := TupT.firm IntT.firm _ _ _ _ (same_tups s4) hmv3
    have hp4 := s4 _ _ (show _ = _ from upd_same)
    obtain ⟨rs', hk', hperm'⟩ := reorder nd hperm
    have ndy : ys.Nodup := sortedS_perm_nd hperm nd
    have hlen' : rs'.length = rs.length := hperm'.length_eq
    have hly : ys.length = rs'.length := by rw [← hk', List.length_map]
    refine ⟨_, rfl, p, T.c_System, dx, _, .ref t, rfl, upd_same, T.cl_System, T.na_System_names, (by rw [lookup_putF, if_neg (by decide +kernel), lookup_putF, if_pos rfl]), t, rfl, ⟨_, SqT.of ((upd_ne npt.symm).trans ht4)⟩, fun D nD => ?_⟩
    have nDp : D ≠ p := fun q => by subst q; rw [upd_same] at nD; cases nD
    have nD4 : H4 D = none := by rw [upd_ne nDp] at nD; exact nD
    refine dc_tup (K := K) (a := t) (xs := ys.map V.str) (fun i H5 => ∃ kv', H5 D = some (.dK kv') ∧ DctOf OptT H5 kv' (rs'.take i) ∧ Same (upd H4 p (.ins T.c_System dx (putF "ways" wv (putF "names" (.ref t) (putF "posts" (.int mvs.length) (putF "moves" (.ref ma) [])))))) H5)
      ⟨[], upd_same, .nil, same_new nD⟩ (fun i H5 _ ⟨_, _, _, q⟩ => SqT.of (q _ _ ((upd_ne npt.symm).trans ht4))) ?_ ?_
    · rintro i x H5 hi ⟨kv', e1, e2, e3⟩
      obtain ⟨z, hz, rfl⟩ := map_at hi
      have hil : i < rs'.length := by rw [← hly]; exact (List.getElem?_eq_some_iff.mp hz).1
      obtain ⟨⟨z', row⟩, hzr⟩ : ∃ q, rs'[i]? = some q := ⟨_, List.getElem?_eq_getElem hil⟩
      have ezz : z' = z := by
        have : (rs'.map (·.1))[i]? = some z := by rw [hk']; exact hz
        rw [List.getElem?_map, hzr] at this
        exact Option.some.inj this
      subst ezz
      have hm : (z', row) ∈ rs := hperm'.mem_iff.mp (List.mem_of_getElem? hzr)
      obtain ⟨v, hv, hO⟩ := dct_some hR4 nd hm
      have hk5 : ∀ e xs, H4 e = some (.tup xs) → H5 e = some (.tup xs) := fun e xs q => e3 _ _ ((upd_ne (ne_of q hp4 (by intro z; cases z))).trans q)
      have hd5 : H5 d = some (.dK kvs) := e3 _ _ ((upd_ne ndp).trans hd4)
      refine ⟨rfl, ?_⟩
      refine yesT ?_
      refine ⟨_, rfl, _, rfl, _, rfl, d, v, rfl, (by rw [← hv]; exact DGet.k (k := Sum.inr z') hd5), ?_⟩
      have hno : ¬ z' ∈ (rs'.take i).map (·.1) := by
        rw [List.map_take, hk']; exact take_nmem ndy hz
      refine ⟨kv', .inr z', rfl, e1, ?_, ?_⟩
      · rw [dct_len e2, List.length_take]; exact small1000 (by omega)
      rw [putK_new _ (dct_none e2 hno)]
      have hF : ∀ e xs, H5 e = some (.tup xs) → (upd H5 D (.dK (kv' ++ [(Sum.inr z', v)]))) e = some (.tup xs) := fun e xs q => (upd_ne (ne_of q e1 (by intro z; cases z))).trans q
      refine ⟨_, upd_same, ?_, same_upd e3 nD⟩
      rw [List.take_add_one, hzr]
      exact Paired.snoc (e2.firm OptT.firm hF) ⟨rfl, OptT.firm H5 _ _ _ hF (OptT.firm H4 _ _ _ hk5 hO)⟩
    · rintro H5 ⟨kv', e1, e2, e3⟩
      rw [List.length_map, hly, List.take_length] at e2
      have hp5 := e3 _ _ (show _ = _ from upd_same)
      refine ⟨_, rfl, p, T.c_System, dx, _, rfl, hp5, T.cl_System, T.na_System__requests, by omega, ?_⟩
      have hF : ∀ e xs, H4 e = some (.tup xs) → (upd H5 p (.ins T.c_System dx (putF "_requests" (.ref D) (putF "ways" wv (putF "names" (.ref t) (putF "posts" (.int mvs.length) (putF "moves" (.ref ma) []))))))) e = some (.tup xs) := fun e xs q =>
        (upd_ne (ne_of q hp4 (by intro z; cases z))).trans (e3 _ _ ((upd_ne (ne_of q hp4 (by intro z; cases z))).trans q))
      have hF5 : ∀ e xs, H5 e = some (.tup xs) → (upd H5 p (.ins T.c_System dx (putF "_requests" (.ref D) (putF "ways" wv (putF "names" (.ref t) (putF "posts" (.int mvs.length) (putF "moves" (.ref ma) []))))))) e = some (.tup xs) := fun e xs q =>
        (upd_ne (ne_of q hp5 (by intro z; cases z))).trans q
      refine k ⟨n, rows, ws, rs'⟩ _ ⟨h1, h6, sq, hW, ?_, ?_, ?_, ?_, ?_⟩ rfl rfl hperm' ⟨⟨dx, .ref ma, t, wv, D, kv', ?_, ?_, ?_, ?_, ?_, ?_⟩⟩ ?_
      · show (rs'.map (·.1)).Nodup
        rw [hk']; exact ndy
      · show sortedS (rs'.map (·.1)) = true
        rw [hk']; exact hsort
      · show 1 ≤ rs'.length
        omega
      · show rs'.length ≤ 5
        omega
      · exact fun q hq => hP q (hperm'.mem_iff.mp hq)
      · rw [upd_same]
        show some (HO.ins T.c_System dx (putF "_requests" (.ref D) (putF "ways" wv (putF "names" (.ref t) (putF "posts" (.int mvs.length) (putF "moves" (.ref ma) [])))))) = some (HO.ins T.c_System dx (sfs (.ref ma) n (.ref t) wv D))
        rw [hml]; rfl
      · exact TupT.firm IntT.firm _ _ _ _ hF hmv4
      · show _ = some (HO.tup ((rs'.map (·.1)).map V.str))
        rw [hk']; exact hF t _ ht4
      · exact TupT.firm IntT.firm _ _ _ _ hF hwv
      · rw [upd_ne nDp]; exact e1
      · exact e2.firm OptT.firm hF5
      · intro b o nb e
        rw [upd_ne nb]
        exact e3 _ _ ((upd_ne nb).trans (s4 _ _ (keep4 nl2 nt2 _ _ nb (s2 _ _ (s1 _ _ e)))))
end
end Toy

namespace Toy
open PySem PySem.Spec PyProof.Rows L2
local macro_rules | `(tactic| walk_at "hp") => `(tactic| first
  | assumption
  | exact upd_same
  | (refine Eq.trans (upd_ne (by first | assumption | (apply Ne.symm; assumption))) ?_; walk_at "hp"))
local macro_rules | `(tactic| walk_at "side") => `(tactic| first
  | exact .inl ⟨by omega, by omega⟩
  | exact .inr ⟨by omega, by omega⟩
  | exact ⟨by omega, by omega⟩
  | (show _ ≤ _; omega)
  | (show (_ : Int) < _; omega)
  | decide
  | assumption)
local macro_rules | `(tactic| walk_at "r") => `(tactic| first
  | refine ⟨_, rfl, ?_⟩
  | refine ⟨_, _, rfl, rfl, ?_⟩
  | refine ⟨_, _, _, _, rfl, rfl, SqL.of (by walk_at "hp"), rfl, ?_⟩
  | refine ⟨_, _, _, _, rfl, rfl, SqT.of (by walk_at "hp"), rfl, ?_⟩
  | refine ⟨_, _, _, _, rfl, rfl, (by walk_at "hp"), rfl, ?_⟩
  | refine And.intro rfl ?_
  | refine ⟨_, _, rfl, SqT.of (by walk_at "hp"), ?_⟩
  | refine ⟨_, _, rfl, SqL.of (by walk_at "hp"), ?_⟩
  | refine .inl ⟨_, rfl, ?_⟩
  | refine ⟨_, _, rfl, .inl (SqL.of (by walk_at "hp")), ?_⟩
  | refine ⟨_, _, rfl, .inr (SqT.of (by walk_at "hp")), ?_⟩
  | refine ⟨_, _, rfl, .inl ⟨SqL.of (by walk_at "hp"), ?_⟩⟩
  | refine And.intro (.inl ⟨rfl, _, SqL.of (by walk_at "hp")⟩) ?_
  | refine ⟨_, _, _, rfl, rfl, (by walk_at "hp"), ?_⟩
  | refine ⟨_, _, rfl, (by walk_at "hp"), ?_⟩
  | refine And.intro (by walk_at "side") ?_)
local macro_rules | `(tactic| walk_at "rr") => `(tactic| (repeat walk_at "r"))
local macro_rules | `(tactic| walk_at "k") => `(tactic| first
  | refine ite2 (fun _ => ?_) (fun g => absurd rfl g)
  | refine ite2 (fun g => absurd g (by decide)) (fun _ => ?_)
  | refine ite2 (fun _ => ?_) (fun g => absurd (decide_eq_true (by omega)) g)
  | refine ite2 (fun g => absurd (of_decide_eq_true g) (by omega)) (fun _ => ?_)
  | refine ite2 (fun g => (nd_t g (by omega)).elim) (fun _ => ?_)
  | refine ite2 (fun _ => ?_) (fun g => absurd (nd_f g) (by omega)))
local macro_rules | `(tactic| walk_at "rk") => `(tactic| (repeat (first | walk_at "r" | walk_at "k")))
section
variable {P : Program} {w : World} {K : PySem.W.Frag} {mg : Str → Option Value} {base : Heap}
theorem ok_System_prices (T : Top K mg) : OkM P w K mg base CX0 2 T.c_System "prices" ["self", "name"] (spPricesM T.c_System) := by
  refine okM_of T.m_System_prices sc_System_prices (fun vs H Q E h => ?_) (fun f cdv A outer s H vs Q E hr h => ?_)
  · obtain ⟨p, S, z, row, rfl, _⟩ := h
    rfl
  · obtain ⟨p, S, z, row, rfl, ok, ⟨dx, mv, na, wv, q, kvs, hp, h2, h3, h4, hq, hR⟩, hm, k⟩ := h
    obtain ⟨f_is_known, fd_is_known, m_is_known, k_is_known, b_is_known, G_is_known⟩ := ok_is_known (P := P) (w := w) (base := base) T
    have hr_is_known : Room 1 _ := hr.mono (by decide)
    have hu := hu_of hr
    obtain ⟨v, hv, hO⟩ := dct_some hR ok.nd hm
    refine ⟨_, (pss_cons (ps_if (pt_not (pt_val (pe_call G_is_known hr_is_known rfl m_is_known k_is_known b_is_known .nil pass0 (pa_cons (pv 1) (pa_cons (pe_fld (pv 0) rfl) pa_nil)))))
      (pss_one (ps_never))
      pss_nil)
      (pss_one (ps_ret (pe_dget hu (pe_fld (pv 0) rfl) (pv 1) (fun _ _ => rfl))))), ?_⟩
    refine ⟨_, rfl, _, rfl, p, T.c_System, dx, _, _, rfl, hp, T.cl_System, T.na_System__requests, sfs_requests, ?_⟩
    refine ⟨z, .ref q, rfl, .inr ⟨q, kvs, rfl, hq, ?_⟩⟩
    rw [hv]
    refine ⟨true, rfl, ?_⟩
    walk_at "k"
    refine ⟨_, rfl, p, T.c_System, dx, _, _, rfl, hp, T.cl_System, T.na_System__requests, sfs_requests, ?_⟩
    refine ⟨_, rfl, q, v, rfl, (by rw [← hv]; exact DGet.k (k := Sum.inr z) hq), k v hO⟩
theorem ok__choices (T : Top K mg) : Ok P w K mg base 3 "_choices" ["system", "start", "name", "ahead"] (spChoices T.c_System) := by
  refine ok_of T.d__choices sc__choices (fun vs H Q E h => ?_) (fun f cdv A outer s H vs Q E hr h => ?_)
  · obtain ⟨p, S, z, row, st, v, ah, rfl, _⟩ := h
    rfl
  · obtain ⟨p, S, z, row, st, v, ah, rfl, ok, SA, hm, hst, ⟨va, rfl, hva⟩, hal, k⟩ := h
    obtain ⟨f_prices, fd_prices, M_prices, b_prices, G_prices⟩ := ok_System_prices (P := P) (w := w) (base := base) T
    have hr_prices : Room 2 _ := hr.mono (by decide)
    have hrow := (ok.pr _ hm).1
    obtain ⟨dx, mv, na, wv, q, kvs, hp, h2, h3, ⟨wa, wvs, rfl, hwa, hwp⟩, hq, hR⟩ := SA.ex
    have hwl : (wvs.length : Int) = S.n := by rw [prd_len hwp]; exact ok.wy.len
    refine ⟨_, (pss_cons (ps_set (i := 4) sc__choices.nd rfl (Or.inr rfl) (pe_ix ix_tup (pe_fld (pv 0) rfl) (pv 1) (fun _ _ => rfl)))
      (pss_cons (ps_set (i := 5) sc__choices.nd rfl (Or.inr rfl) (pe_meth (pv 0) T.cl_System M_prices G_prices hr_prices b_prices .nil pass0 (pa_cons (pv 2) pa_nil)))
      (pss_one (ps_ret (pe_lc (own := [("post", 6)]) (g := gName 6) rfl sc__choices.nd (pi_range1 (by rfl) T.b_range (pa_cons (pe_fld (pv 0) rfl) pa_nil)) (blkOk_by (own := [("post", 6)]) (N := ["system", "start", "name", "ahead", "ways", "prices", "post"]) (sc := defScope s__choices) (by decide +kernel)) (fun _ _ _ _ _ => (pg_name (i := 6) sc__choices.nd rfl (Or.inl rfl))) (fun _ _ _ _ _ => (pts_one (pt_cmpR op_notN (pe_ix (ix_tup : IxR _ (rIxT K)) (pv 5) (pv 6) (fun _ _ => rfl)) pe_non (nomark _)))) (fun _ _ _ _ _ => (pe_tup (pa_cons (pe_op op_add (pe_op op_add (pe_ix (ix_tup : IxR _ (rIxT K)) (pv 4) (pv 6) (fun _ _ => rfl)) (pe_ix (ix_tup : IxR _ (rIxT K)) (pv 5) (pv 6) (fun _ _ => rfl))) (pe_ix (ix_tup : IxR _ (rIxT K)) (pv 3) (pv 6) (fun _ _ => rfl))) (pa_cons (pv 6) pa_nil))))))))), ?_⟩
    obtain ⟨wr, hwr⟩ : ∃ v, wvs[st]? = some v := ⟨_, List.getElem?_eq_getElem (by omega)⟩
    obtain ⟨wrow, hwrow, ⟨wra, rfl, hwra⟩⟩ := prd_at1 hwp hwr
    refine ⟨_, rfl, p, T.c_System, dx, _, _, rfl, hp, T.cl_System, T.na_System_ways, sfs_ways, _, rfl, wa, _, _, _, rfl, rfl, SqT.of hwa, atI_nat hwr, ?_⟩
    refine ⟨_, rfl, p, dx, _, rfl, hp, sfs_no (by decide +kernel) (by decide +kernel) (by decide +kernel) (by decide +kernel) (by decide +kernel), _, rfl, ?_⟩
    refine ⟨p, S, z, row, rfl, ok, SA, hm, fun pv hpv => ?_⟩
    obtain ⟨pa, rfl, hpa⟩ := hpv
    have n6 := ok.n6
    have n1 := ok.n1
    have hrl : (row.length : Int) = S.n := hrow.len
    have hwl2 := ok.wy.row wrow (List.mem_of_getElem? hwrow)
    refine ⟨_, rfl, p, T.c_System, dx, _, _, rfl, hp, T.cl_System, T.na_System_posts, sfs_posts, _, rfl, by omega, by omega, fun D nD => ?_⟩
    refine lc_range (lo := 0) (n := S.n.toNat) (fun i H2 => ∃ us : List V, H2 D = some (.lst us) ∧ Paired (PrT H2) us (chs i S.ws row ah st) ∧ Same H H2) ⟨[], upd_same, .nil, same_new nD⟩ ?_ ?_
    · rintro i H2 hi ⟨us, e1, e2, e3⟩
      rw [Int.zero_add]
      refine ⟨rfl, ?_⟩
      have hpa2 := e3 _ _ hpa
      have hwra2 := e3 _ _ hwra
      have hva2 := e3 _ _ hva
      have r1 : (row.map vO)[i]? = some (vO (row.getD i none)) := by rw [List.getElem?_map, getDat none (by omega)]; rfl
      refine ⟨_, rfl, _, rfl, pa, _, _, _, rfl, rfl, SqT.of hpa2, atI_nat r1, rfl, _, rfl, ?_⟩
      cases hc : row.getD i none with
      | none =>
        refine ite2 (fun g => absurd g (by decide)) (fun _ => ?_)
        exact ⟨us, e1, by rw [chs_none hc]; exact e2, e3⟩
      | some c =>
        refine ite2 (fun _ => ?_) (fun g => absurd (by rfl) g)
        have r1' : (row.map vO)[i]? = some (.int c) := by rw [r1, hc]; rfl
        have r2 : (wrow.map V.int)[i]? = some (.int (wrow.getD i 0)) := by rw [List.getElem?_map, getDat 0 (by omega)]; rfl
        have r3 : (ah.map V.int)[i]? = some (.int (ah.getD i 0)) := by rw [List.getElem?_map, getDat 0 (by omega)]; rfl
        refine ⟨_, rfl, _, rfl, wra, _, _, _, rfl, rfl, SqT.of hwra2, atI_nat r2, _, rfl, _, rfl, pa, _, _, _, rfl, rfl, SqT.of hpa2, atI_nat r1', _, _, rfl, rfl, _, rfl, _, rfl, va, _, _, _, rfl, rfl, SqT.of hva2, atI_nat r3, _, _, rfl, rfl, ?_⟩
        refine ⟨_, rfl, (by show 2 ≤ sizeLine; decide), fun t nt => ?_⟩
        have ntD : t ≠ D := fun q => by subst q; rw [e1] at nt; cases nt
        refine ⟨us, (upd_ne ntD.symm).trans e1, ?_, _, upd_same, ?_, same_upd (same_upd e3 (e3.free nt)) nD⟩
        · rw [prd_len e2]; exact small1000 (Nat.le_trans (chs_len _ _ _ _ _) (by omega))
        rw [chs_some hc]
        refine Paired.snoc (prd_imp e2 fun x y r => PrT.firm H2 _ x y (fun e xs q => (upd_ne (ne_of q e1 (by intro z; cases z))).trans ((upd_ne (ne_of_none q nt)).trans q)) r) ⟨t, rfl, ?_⟩
        rw [upd_ne ntD, upd_same, mat_at hwrow]
        rfl
    · rintro H2 ⟨us, e1, e2, e3⟩
      exact k D us H2 e3 e1 e2
theorem ok__ceilings (T : Top K mg) : Ok P w K mg base 4 "_ceilings" ["system", "name", "ahead"] (spCeilings T.c_System) := by
  refine ok_of T.d__ceilings sc__ceilings (fun vs H Q E h => ?_) (fun f cdv A outer s H vs Q E hr h => ?_)
  · obtain ⟨p, S, z, row, v, ah, rfl, _⟩ := h
    rfl
  · obtain ⟨p, S, z, row, v, ah, rfl, ok, SA, hm, hva, hal, k⟩ := h
    obtain ⟨f__choices, fd__choices, m__choices, k__choices, b__choices, G__choices⟩ := ok__choices (P := P) (w := w) (base := base) T
    have hr__choices : Room 3 _ := hr.mono (by decide)
    have hu64 := hr.units
    have hrow := (ok.pr _ hm).1
    obtain ⟨dx, mv, na, wv, q, kvs, hp, h2, h3, h4, hq, hR⟩ := SA.ex
    have n6 := ok.n6
    have n1 := ok.n1
    refine ⟨_, (pss_one (ps_ret (pe_callTy (T := "tuple") call_tuple_of (by rfl) T.b_tuple (by decide +kernel) (pa_cons (pe_lc (own := [("start", 3)]) (g := gName 3) rfl sc__ceilings.nd (pi_range1 (by rfl) T.b_range (pa_cons (pe_fld (pv 0) rfl) pa_nil)) (blkOk_by (own := [("start", 3)]) (N := ["system", "name", "ahead", "start"]) (sc := defScope s__ceilings) (by decide +kernel)) (fun _ _ _ _ _ => (pg_name (i := 3) sc__ceilings.nd rfl (Or.inl rfl))) (fun _ _ _ _ _ => pts_nil) (fun _ _ _ _ _ => (pe_ix (ix_tup : IxR _ (rIxT K)) (pe_callB (id := "min") ((cr_minD rfl hu64) : CallR _ _ (rMinD K)) (by rfl) T.b_min (by decide +kernel) (pa_cons (pe_call G__choices hr__choices rfl m__choices k__choices b__choices .nil pass0 (pa_cons (pv 0) (pa_cons (pv 3) (pa_cons (pv 1) (pa_cons (pv 2) pa_nil))))) pa_nil)) pe_int (fun _ _ => rfl)))) pa_nil)))), ?_⟩
    refine ⟨_, rfl, p, T.c_System, dx, _, _, rfl, hp, T.cl_System, T.na_System_posts, sfs_posts, _, rfl, by omega, by omega, fun D nD => ?_⟩
    refine lc_range (lo := 0) (n := S.n.toNat) (fun i H2 => H2 D = some (.lst (((List.range i).map fun s => minL ((chs S.n.toNat S.ws row ah s).map (·.1))).map V.int)) ∧ Same H H2) ⟨upd_same, same_new nD⟩ ?_ ?_
    · rintro i H2 hi ⟨e1, e3⟩
      rw [Int.zero_add]
      refine ⟨rfl, ?_⟩
      refine yesT ?_
      walk_at "rr"
      refine ⟨p, S, z, row, i, v, ah, rfl, ok, SA.same e3, hm, by omega, IntT.firm H H2 _ _ (same_tups e3) hva, hal, fun l us H4 s4 hl hpr => ?_⟩
      dsimp only [tNil]
      refine min_pairs hl hpr (chs_ne hrow) fun v' q' hv' hq' e' => ?_
      obtain ⟨a', rfl, ha'⟩ := hv'
      refine ⟨a', _, 0, .int q'.1, rfl, rfl, SqT.of ha', rfl, ?_⟩
      refine ⟨_, s4 _ _ e1, ?_, ?_, same_upd (e3.trans s4) nD⟩
      · rw [List.length_map, List.length_map, List.length_range]; exact small1000 (by omega)
      · rw [upd_same, List.range_succ, List.map_append, List.map_append, e']
        rfl
    · rintro H2 ⟨e1, e3⟩
      refine ⟨D, _, rfl, .inl ⟨SqL.of e1, fun t nt => ?_⟩⟩
      exact k _ _ (e3.trans (same_new nt)) ⟨t, rfl, upd_same⟩
end
end Toy

namespace Toy
open PySem PySem.Spec PyProof.Rows L2
local macro_rules | `(tactic| walk_at "hp") => `(tactic| first
  | assumption
  | exact upd_same
  | (refine Eq.trans (upd_ne (by first | assumption | (apply Ne.symm; assumption))) ?_; walk_at "hp"))
local macro_rules | `(tactic| walk_at "side") => `(tactic| first
  | exact .inl ⟨by omega, by omega⟩
  | exact .inr ⟨by omega, by omega⟩
  | exact ⟨by omega, by omega⟩
  | (show _ ≤ _; omega)
  | (show (_ : Int) < _; omega)
  | decide
  | assumption)
local macro_rules | `(tactic| walk_at "r") => `(tactic| first
  | refine ⟨_, rfl, ?_⟩
  | refine ⟨_, _, rfl, rfl, ?_⟩
  | refine ⟨_, _, _, _, rfl, rfl, SqL.of (by walk_at "hp"), rfl, ?_⟩
  | refine ⟨_, _, _, _, rfl, rfl, SqT.of (by walk_at "hp"), rfl, ?_⟩
  | refine ⟨_, _, _, _, rfl, rfl, (by walk_at "hp"), rfl, ?_⟩
  | refine And.intro rfl ?_
  | refine ⟨_, _, rfl, SqT.of (by walk_at "hp"), ?_⟩
  | refine ⟨_, _, rfl, SqL.of (by walk_at "hp"), ?_⟩
  | refine .inl ⟨_, rfl, ?_⟩
  | refine ⟨_, _, rfl, .inl (SqL.of (by walk_at "hp")), ?_⟩
  | refine ⟨_, _, rfl, .inr (SqT.of (by walk_at "hp")), ?_⟩
  | refine ⟨_, _, rfl, .inl ⟨SqL.of (by walk_at "hp"), ?_⟩⟩
  | refine And.intro (.inl ⟨rfl, _, SqL.of (by walk_at "hp")⟩) ?_
  | refine ⟨_, _, _, rfl, rfl, (by walk_at "hp"), ?_⟩
  | refine ⟨_, _, rfl, (by walk_at "hp"), ?_⟩
  | refine And.intro (by walk_at "side") ?_)
local macro_rules | `(tactic| walk_at "rr") => `(tactic| (repeat walk_at "r"))
local macro_rules | `(tactic| walk_at "k") => `(tactic| first
  | refine ite2 (fun _ => ?_) (fun g => absurd rfl g)
  | refine ite2 (fun g => absurd g (by decide)) (fun _ => ?_)
  | refine ite2 (fun _ => ?_) (fun g => absurd (decide_eq_true (by omega)) g)
  | refine ite2 (fun g => absurd (of_decide_eq_true g) (by omega)) (fun _ => ?_)
  | refine ite2 (fun g => (nd_t g (by omega)).elim) (fun _ => ?_)
  | refine ite2 (fun _ => ?_) (fun g => absurd (nd_f g) (by omega)))
local macro_rules | `(tactic| walk_at "rk") => `(tactic| (repeat (first | walk_at "r" | walk_at "k")))
section
variable {P : Program} {w : World} {K : PySem.W.Frag} {mg : Str → Option Value} {base : Heap}
end
end Toy

namespace Toy
open PySem PySem.Spec PyProof.Rows L2
local macro_rules | `(tactic| walk_at "hp") => `(tactic| first
  | assumption
  | exact upd_same
  | (refine Eq.trans (upd_ne (by first | assumption | (apply Ne.symm; assumption))) ?_; walk_at "hp"))
local macro_rules | `(tactic| walk_at "side") => `(tactic| first
  | exact .inl ⟨by omega, by omega⟩
  | exact .inr ⟨by omega, by omega⟩
  | exact ⟨by omega, by omega⟩
  | (show _ ≤ _; omega)
  | (show (_ : Int) < _; omega)
  | decide
  | assumption)
local macro_rules | `(tactic| walk_at "r") => `(tactic| first
  | refine ⟨_, rfl, ?_⟩
  | refine ⟨_, _, rfl, rfl, ?_⟩
  | refine ⟨_, _, _, _, rfl, rfl, SqL.of (by walk_at "hp"), rfl, ?_⟩
  | refine ⟨_, _, _, _, rfl, rfl, SqT.of (by walk_at "hp"), rfl, ?_⟩
  | refine ⟨_, _, _, _, rfl, rfl, (by walk_at "hp"), rfl, ?_⟩
  | refine And.intro rfl ?_
  | refine ⟨_, _, rfl, SqT.of (by walk_at "hp"), ?_⟩
  | refine ⟨_, _, rfl, SqL.of (by walk_at "hp"), ?_⟩
  | refine .inl ⟨_, rfl, ?_⟩
  | refine ⟨_, _, rfl, .inl (SqL.of (by walk_at "hp")), ?_⟩
  | refine ⟨_, _, rfl, .inr (SqT.of (by walk_at "hp")), ?_⟩
  | refine ⟨_, _, rfl, .inl ⟨SqL.of (by walk_at "hp"), ?_⟩⟩
  | refine And.intro (.inl ⟨rfl, _, SqL.of (by walk_at "hp")⟩) ?_
  | refine ⟨_, _, _, rfl, rfl, (by walk_at "hp"), ?_⟩
  | refine ⟨_, _, rfl, (by walk_at "hp"), ?_⟩
  | refine And.intro (by walk_at "side") ?_)
local macro_rules | `(tactic| walk_at "rr") => `(tactic| (repeat walk_at "r"))
local macro_rules | `(tactic| walk_at "k") => `(tactic| first
  | refine ite2 (fun _ => ?_) (fun g => absurd rfl g)
  | refine ite2 (fun g => absurd g (by decide)) (fun _ => ?_)
  | refine ite2 (fun _ => ?_) (fun g => absurd (decide_eq_true (by omega)) g)
  | refine ite2 (fun g => absurd (of_decide_eq_true g) (by omega)) (fun _ => ?_)
  | refine ite2 (fun g => (nd_t g (by omega)).elim) (fun _ => ?_)
  | refine ite2 (fun _ => ?_) (fun g => absurd (nd_f g) (by omega)))
local macro_rules | `(tactic| walk_at "rk") => `(tactic| (repeat (first | walk_at "r" | walk_at "k")))
section
variable {P : Program} {w : World} {K : PySem.W.Frag} {mg : Str → Option Value} {base : Heap}
end
end Toy

namespace Toy
open PySem PySem.Spec PyProof.Rows L2
local macro_rules | `(tactic| walk_at "hp") => `(tactic| first
  | assumption
  | exact upd_same
  | (refine Eq.trans (upd_ne (by first | assumption | (apply Ne.symm; assumption))) ?_; walk_at "hp"))
local macro_rules | `(tactic| walk_at "side") => `(tactic| first
  | exact .inl ⟨by omega, by omega⟩
  | exact .inr ⟨by omega, by omega⟩
  | exact ⟨by omega, by omega⟩
  | (show _ ≤ _; omega)
  | (show (_ : Int) < _; omega)
  | decide
  | assumption)
local macro_rules | `(tactic| walk_at "r") => `(tactic| first
  | refine ⟨_, rfl, ?_⟩
  | refine ⟨_, _, rfl, rfl, ?_⟩
  | refine ⟨_, _, _, _, rfl, rfl, SqL.of (by walk_at "hp"), rfl, ?_⟩
  | refine ⟨_, _, _, _, rfl, rfl, SqT.of (by walk_at "hp"), rfl, ?_⟩
  | refine ⟨_, _, _, _, rfl, rfl, (by walk_at "hp"), rfl, ?_⟩
  | refine And.intro rfl ?_
  | refine ⟨_, _, rfl, SqT.of (by walk_at "hp"), ?_⟩
  | refine ⟨_, _, rfl, SqL.of (by walk_at "hp"), ?_⟩
  | refine .inl ⟨_, rfl, ?_⟩
  | refine ⟨_, _, rfl, .inl (SqL.of (by walk_at "hp")), ?_⟩
  | refine ⟨_, _, rfl, .inr (SqT.of (by walk_at "hp")), ?_⟩
  | refine ⟨_, _, rfl, .inl ⟨SqL.of (by walk_at "hp"), ?_⟩⟩
  | refine And.intro (.inl ⟨rfl, _, SqL.of (by walk_at "hp")⟩) ?_
  | refine ⟨_, _, _, rfl, rfl, (by walk_at "hp"), ?_⟩
  | refine ⟨_, _, rfl, (by walk_at "hp"), ?_⟩
  | refine And.intro (by walk_at "side") ?_)
local macro_rules | `(tactic| walk_at "rr") => `(tactic| (repeat walk_at "r"))
local macro_rules | `(tactic| walk_at "k") => `(tactic| first
  | refine ite2 (fun _ => ?_) (fun g => absurd rfl g)
  | refine ite2 (fun g => absurd g (by decide)) (fun _ => ?_)
  | refine ite2 (fun _ => ?_) (fun g => absurd (decide_eq_true (by omega)) g)
  | refine ite2 (fun g => absurd (of_decide_eq_true g) (by omega)) (fun _ => ?_)
  | refine ite2 (fun g => (nd_t g (by omega)).elim) (fun _ => ?_)
  | refine ite2 (fun _ => ?_) (fun g => absurd (nd_f g) (by omega)))
local macro_rules | `(tactic| walk_at "rk") => `(tactic| (repeat (first | walk_at "r" | walk_at "k")))
section
variable {P : Program} {w : World} {K : PySem.W.Frag} {mg : Str → Option Value} {base : Heap}
theorem ok__law_ways (T : Top K mg) : Ok P w K mg base 1 "_law_ways" ["moves"] spLawWays := by
  refine ok_of T.d__law_ways sc__law_ways (fun vs H Q E h => ?_) (fun f cdv A outer s H vs Q E hr h => ?_)
  · obtain ⟨v, rows, n, top, rfl, _⟩ := h
    rfl
  · obtain ⟨v, rows, n, top, rfl, ⟨a, vs, rfl, ha, hp⟩, S, h1, h6, k⟩ := h
    have hl : (vs.length : Int) = n := by rw [prd_len hp]; exact S.len
    refine ⟨_, (pss_cons (ps_set (i := 1) sc__law_ways.nd rfl (Or.inr rfl) (pe_callB (id := "len") call_len_seq (by rfl) T.b_len (by decide +kernel) (pa_cons (pv 0) pa_nil)))
      (pss_cons (ps_set (i := 2) sc__law_ways.nd rfl (Or.inr rfl) (pe_lc (own := [("row", 6)]) (g := gName 6) rfl sc__law_ways.nd (pi_tup (pv 0)) (blkOk_by (own := [("row", 6)]) (N := ["moves", "posts", "ways", "k", "longer", "a", "row", "c", "b"]) (sc := defScope s__law_ways) (by decide +kernel)) (fun _ _ _ _ _ => (pg_name (i := 6) sc__law_ways.nd rfl (Or.inl rfl))) (fun _ _ _ _ _ => pts_nil) (fun _ _ _ _ _ => (pe_callTy (T := "list") (call_list_of : CallR _ _ (rListOf K)) (by rfl) T.b_list (by decide +kernel) (pa_cons (pv 6) pa_nil)))))
      (pss_cons (ps_for PassesOwn.never rfl (pi_range1 (by rfl) T.b_range (pa_cons (pv 1) pa_nil)) (pg_name (i := 3) sc__law_ways.nd rfl (Or.inl rfl))
      (pss_cons (ps_set (i := 4) sc__law_ways.nd rfl (Or.inl rfl) (pe_lst pa_nil))
      (pss_cons (ps_for PassesOwn.never rfl (pi_range1 (by rfl) T.b_range (pa_cons (pv 1) pa_nil)) (pg_name (i := 5) sc__law_ways.nd rfl (Or.inr rfl))
      (pss_one (ps_expr (pe_bm PySem.F.plainAttrs_list PySem.F.slot_list_append PySem.F.type_list_append mt_append (pv 4) (pa_cons (pe_lc (own := [("b", 8)]) (g := gName 8) rfl sc__law_ways.nd (pi_range1 (by rfl) T.b_range (pa_cons (pv 1) pa_nil)) (blkOk_by (own := [("b", 8)]) (N := ["moves", "posts", "ways", "k", "longer", "a", "row", "c", "b"]) (sc := defScope s__law_ways) (by decide +kernel)) (fun _ _ _ _ _ => (pg_name (i := 8) sc__law_ways.nd rfl (Or.inr rfl))) (fun _ _ _ _ _ => pts_nil) (fun _ _ _ _ _ => (pe_callB (id := "min") ((cr_min rfl) : CallR _ _ (rMin K)) (by rfl) T.b_min (by decide +kernel) (pa_cons (pe_lc (own := [("c", 7)]) (g := gName 7) rfl sc__law_ways.nd (pi_range1 (by rfl) T.b_range (pa_cons (pv 1) pa_nil)) (blkOk_fr (own := [("c", 7)]) (N := ["moves", "posts", "ways", "k", "longer", "a", "row", "c", "b"]) ["b", "ways", "a", "moves"] (by decide +kernel) ⟨(by first | exact Or.inl rfl | exact Or.inr rfl), (by first | exact Or.inl rfl | exact Or.inr rfl), (by first | exact Or.inl rfl | exact Or.inr rfl), (by first | exact Or.inl rfl | exact Or.inr rfl), True.intro⟩) (fun _ _ _ _ _ => (pg_name (i := 7) sc__law_ways.nd rfl (Or.inl rfl))) (fun _ _ _ _ _ => pts_nil) (fun _ _ _ _ _ => (pe_op op_add (pe_ix (ix_list : IxR _ (rIxL K)) (pe_ix (ix_list : IxR _ (rIxL K)) (pv 2) (pv 5) (fun _ _ => rfl)) (pv 7) (fun _ _ => rfl)) (pe_ix (ix_tup : IxR _ (rIxT K)) (pe_ix (ix_tup : IxR _ (rIxT K)) (pv 0) (pv 7) (fun _ _ => rfl)) (pv 8) (fun _ _ => rfl))))) pa_nil)))) pa_nil)))))
      (pss_one (ps_set (i := 2) sc__law_ways.nd rfl (Or.inr rfl) (pv 4))))))
      (pss_one (ps_ret (pv 2)))))), ?_⟩
    walk_at "rr"
    refine ⟨⟨_, SqT.of ha⟩, ?_⟩
    intro L nL
    refine lc_tup (K := K) (a := a) (xs := vs) (fun i H2 => ∃ as : List Addr, H2 L = some (.lst (as.map V.ref)) ∧ as.length = i ∧ (∀ (j : Nat) b, as[j]? = some b → b ≠ L ∧ H2 b = some (.lst (rowV n.toNat (mat rows j)))) ∧ Same H H2)
      ⟨[], upd_same, rfl, by simp, same_new nL⟩ (fun i H2 _ ⟨_, _, _, _, q⟩ => SqT.of (q _ _ ha)) ?_ ?_
    · rintro i x H2 hi ⟨as, e1, e2, e6, e7⟩
      obtain ⟨row, hrow, b, rfl, hb⟩ := prd_at1 hp hi
      have hb2 := e7 _ _ hb
      refine ⟨rfl, ?_⟩
      refine yesT ?_
      refine ⟨_, rfl, b, _, rfl, .inr (SqT.of hb2), fun t nt => ?_⟩
      have ntL : L ≠ t := ne_of_none e1 nt
      have ntH := e7.free nt
      refine ⟨_, (upd_ne ntL).trans e1, ?_, as ++ [t], ?_, ?_, ?_, ?_⟩
      · rw [List.length_map]; have := (List.getElem?_eq_some_iff.mp hi).1; exact small1000 (by omega)
      · rw [upd_same, List.map_append]; rfl
      · rw [List.length_append, e2]; rfl
      · intro j c hc
        by_cases hj : j < as.length
        · rw [List.getElem?_append_left hj] at hc
          obtain ⟨q1, q2⟩ := e6 j c hc
          exact ⟨q1, (upd_ne q1).trans ((upd_ne (ne_of_none q2 nt)).trans q2)⟩
        · have hj2 : j = as.length := by
            have := (List.getElem?_eq_some_iff.mp hc).1
            rw [List.length_append] at this
            simp at this
            omega
          subst hj2
          rw [List.getElem?_append_right (Nat.le_refl _), Nat.sub_self] at hc
          obtain rfl := Option.some.inj (show some t = some c from hc)
          refine ⟨ntL.symm, ?_⟩
          rw [upd_ne ntL.symm, upd_same]
          have hrm := S.row row (List.mem_of_getElem? hrow)
          rw [rowV_of (n := n.toNat) (by omega), e2]
          congr 2
          unfold rowV
          apply List.map_congr_left
          intro q _
          rw [mat_at hrow]
      · exact same_upd (same_upd e7 ntH) nL
    · rintro H1 ⟨as, e1, e2, e6, s1⟩
      have M0 : LM H1 L n.toNat (mat rows) := ⟨as, e1, by omega, fun i b hb => (e6 i b hb).2⟩
      walk_at "rr"
      refine for_range (lo := 0) (n := (vs.length : Int).toNat) (fun kk σ' H2 => ∃ (Lw : Addr) (M : Nat → Nat → Int) (o3 o4 o5 : Option V), σ' = [some (.ref a), some (.int vs.length), some (.ref Lw), o3, o4, o5, none, none, none] ∧ LM H2 Lw n.toNat M ∧
          Snd n.toNat (mat rows) M ∧ Bound n.toNat (kk + 2) (mat rows) M ∧ Same H1 H2)
        ⟨L, _, none, none, none, rfl, M0, Snd.self, Bound.two S.z, Same.refl _⟩ ?_ ?_
      · rintro kk σ' H2 hkk ⟨Lw, M, o3, o4, o5, rfl, hM, hS, hB, s2⟩
        refine ⟨(by show 0 ≤ sizeLine; decide), fun Ll nLl => ?_⟩
        walk_at "rr"
        refine for_range (lo := 0) (n := (vs.length : Int).toNat) (fun aa σ' H3 => ∃ (as' : List Addr) (o5 : Option V), σ' = [some (.ref a), some (.int vs.length), some (.ref Lw), some (.int (kk : Nat)), some (.ref Ll), o5, none, none, none] ∧ H3 Ll = some (.lst (as'.map V.ref)) ∧
            as'.length = aa ∧ (∀ (j : Nat) b, as'[j]? = some b → b ≠ Ll ∧ H3 b = some (.lst (rowV n.toNat (prodM n.toNat M (mat rows) j)))) ∧ Same H2 H3)
          ⟨[], o5, by simp [gName], upd_same, rfl, by simp, same_new nLl⟩ ?_ ?_
        · rintro aa σ' H3 haa ⟨as', o5, rfl, q1, q2, q3, q4⟩
          have haa' : aa < n.toNat := by omega
          obtain ⟨was, w1, w2, w3⟩ := hM.ex
          obtain ⟨wa, hwa⟩ : ∃ b, was[aa]? = some b := ⟨_, List.getElem?_eq_getElem (by omega)⟩
          have hwar := w3 aa wa hwa
          have s03 : Same H H3 := (s1.trans s2).trans q4
          rw [Int.zero_add]
          walk_at "rr"
          intro D nD
          refine lc_range (lo := 0) (n := (vs.length : Int).toNat) (fun b H4 => H4 D = some (.lst (((List.range b).map (prodM n.toNat M (mat rows) aa)).map V.int)) ∧ Same H3 H4) ⟨upd_same, same_new nD⟩ ?_ ?_
          · rintro b H4 hb ⟨f1, f2⟩
            have hb' : b < n.toNat := by omega
            rw [Int.zero_add]
            refine ⟨rfl, ?_⟩
            refine yesT ?_
            walk_at "rr"
            intro Ec nEc
            refine lc_range (lo := 0) (n := (vs.length : Int).toNat) (fun c H5 => H5 Ec = some (.lst (((List.range c).map fun c => M aa c + mat rows c b).map V.int)) ∧ Same H4 H5) ⟨upd_same, same_new nEc⟩ ?_ ?_
            · rintro c H5 hc ⟨g1, g2⟩
              have hc' : c < n.toNat := by omega
              have s35 : Same H3 H5 := f2.trans g2
              obtain ⟨mv, hmv⟩ : ∃ v, vs[c]? = some v := ⟨_, List.getElem?_eq_getElem (by omega)⟩
              obtain ⟨mrow, hmrow, ma, rfl, hma⟩ := prd_at1 hp hmv
              have hml := (S.row mrow (List.mem_of_getElem? hmrow)).1
              have hmb : (mrow.map V.int)[b]? = some (.int (mat rows c b)) := by
                rw [List.getElem?_map, getDat 0 (by omega), mat_at hmrow]; rfl
              rw [Int.zero_add]
              refine ⟨rfl, ?_⟩
              refine yesT ?_
              refine ⟨_, rfl, _, rfl, Lw, _, (aa : Nat), .ref wa, rfl, rfl, SqL.of (s35 _ _ (q4 _ _ w1)), atI_nat (by rw [List.getElem?_map, hwa]; rfl), _, rfl, wa, _, (c : Nat), _, rfl, rfl, SqL.of (s35 _ _ (q4 _ _ hwar)), atI_nat (rowV_at hc'), ?_⟩
              refine ⟨_, rfl, _, rfl, a, _, (c : Nat), .ref ma, rfl, rfl, SqT.of (s35 _ _ (s03 _ _ ha)), atI_nat hmv, _, rfl, ma, _, (b : Nat), _, rfl, rfl, SqT.of (s35 _ _ (s03 _ _ hma)), atI_nat hmb, _, _, rfl, rfl, ?_⟩
              refine ⟨_, g1, ?_, ?_, same_upd g2 nEc⟩
              · rw [List.length_map, List.length_map, List.length_range]; exact small1000 (by omega)
              · rw [upd_same, List.range_succ, List.map_append, List.map_append]; rfl
            · rintro H5 ⟨g1, g2⟩
              have eN : (vs.length : Int).toNat = n.toNat := by omega
              rw [eN] at g1
              refine ⟨Ec, _, rfl, SqL.of g1, (by rw [List.length_map, List.length_range]; omega), fun m hm hle => ?_⟩
              have em : prodM n.toNat M (mat rows) aa b = m := minL_eq hm hle
              refine ⟨_, g2 _ _ f1, ?_, ?_, same_upd (f2.trans g2) nD⟩
              · rw [List.length_map, List.length_map, List.length_range]; exact small1000 (by omega)
              · rw [upd_same, List.range_succ, List.map_append, List.map_append, ← em]; rfl
          · rintro H4 ⟨f1, f2⟩
            have eN : (vs.length : Int).toNat = n.toNat := by omega
            rw [eN] at f1
            have nDl : D ≠ Ll := (ne_of_none q1 nD).symm
            refine ⟨Ll, _, _, rfl, rfl, f2 _ _ q1, ?_, as' ++ [D], _, rfl, ?_, ?_, ?_, ?_⟩
            · rw [List.length_map, q2]; exact small1000 (by omega)
            · rw [upd_same, List.map_append]; rfl
            · rw [List.length_append, q2]; rfl
            · intro j c hc
              by_cases hj : j < as'.length
              · rw [List.getElem?_append_left hj] at hc
                obtain ⟨r1, r2⟩ := q3 j c hc
                exact ⟨r1, (upd_ne r1).trans (f2 _ _ r2)⟩
              · have hj2 : j = as'.length := by
                  have := (List.getElem?_eq_some_iff.mp hc).1
                  rw [List.length_append] at this
                  simp at this
                  omega
                subst hj2
                rw [List.getElem?_append_right (Nat.le_refl _), Nat.sub_self] at hc
                obtain rfl := Option.some.inj (show some D = some c from hc)
                refine ⟨nDl, ?_⟩
                rw [upd_ne nDl, f1, q2, rowV_ints]
            · exact same_upd (q4.trans f2) nLl
        · rintro σ' H3 ⟨as', o5, rfl, q1, q2, q3, q4⟩
          refine ⟨_, rfl, Ll, prodM n.toNat M (mat rows), _, _, _, rfl, ⟨as', q1, by omega, fun i b hb => (q3 i b hb).2⟩, ?_, ?_, s2.trans q4⟩
          · exact hS.step fun i j _ _ => prodM_has (by omega)
          · exact hB.step S.z (by omega) fun i j c _ _ hc => prodM_le hc
      · rintro σ' H2 ⟨Lw, M, o3, o4, o5, rfl, hM, hS, hB, s2⟩
        walk_at "rr"
        exact k Lw M H2 (s1.trans s2) hM (Least.prod S.nn hS hB (by omega))
end
end Toy

namespace Toy
open PySem PySem.Spec PyProof.Rows L2
local macro_rules | `(tactic| walk_at "hp") => `(tactic| first
  | assumption
  | exact upd_same
  | (refine Eq.trans (upd_ne (by first | assumption | (apply Ne.symm; assumption))) ?_; walk_at "hp"))
local macro_rules | `(tactic| walk_at "side") => `(tactic| first
  | exact .inl ⟨by omega, by omega⟩
  | exact .inr ⟨by omega, by omega⟩
  | exact ⟨by omega, by omega⟩
  | (show _ ≤ _; omega)
  | (show (_ : Int) < _; omega)
  | decide
  | assumption)
local macro_rules | `(tactic| walk_at "r") => `(tactic| first
  | refine ⟨_, rfl, ?_⟩
  | refine ⟨_, _, rfl, rfl, ?_⟩
  | refine ⟨_, _, _, _, rfl, rfl, SqL.of (by walk_at "hp"), rfl, ?_⟩
  | refine ⟨_, _, _, _, rfl, rfl, SqT.of (by walk_at "hp"), rfl, ?_⟩
  | refine ⟨_, _, _, _, rfl, rfl, (by walk_at "hp"), rfl, ?_⟩
  | refine And.intro rfl ?_
  | refine ⟨_, _, rfl, SqT.of (by walk_at "hp"), ?_⟩
  | refine ⟨_, _, rfl, SqL.of (by walk_at "hp"), ?_⟩
  | refine .inl ⟨_, rfl, ?_⟩
  | refine ⟨_, _, rfl, .inl (SqL.of (by walk_at "hp")), ?_⟩
  | refine ⟨_, _, rfl, .inr (SqT.of (by walk_at "hp")), ?_⟩
  | refine ⟨_, _, rfl, .inl ⟨SqL.of (by walk_at "hp"), ?_⟩⟩
  | refine And.intro (.inl ⟨rfl, _, SqL.of (by walk_at "hp")⟩) ?_
  | refine ⟨_, _, _, rfl, rfl, (by walk_at "hp"), ?_⟩
  | refine ⟨_, _, rfl, (by walk_at "hp"), ?_⟩
  | refine And.intro (by walk_at "side") ?_)
local macro_rules | `(tactic| walk_at "rr") => `(tactic| (repeat walk_at "r"))
local macro_rules | `(tactic| walk_at "k") => `(tactic| first
  | refine ite2 (fun _ => ?_) (fun g => absurd rfl g)
  | refine ite2 (fun g => absurd g (by decide)) (fun _ => ?_)
  | refine ite2 (fun _ => ?_) (fun g => absurd (decide_eq_true (by omega)) g)
  | refine ite2 (fun g => absurd (of_decide_eq_true g) (by omega)) (fun _ => ?_)
  | refine ite2 (fun g => (nd_t g (by omega)).elim) (fun _ => ?_)
  | refine ite2 (fun _ => ?_) (fun g => absurd (nd_f g) (by omega)))
local macro_rules | `(tactic| walk_at "rk") => `(tactic| (repeat (first | walk_at "r" | walk_at "k")))
theorem ne_no {x y : V} (h : x = y) (g : (!decide (x = y)) = true) : False := by
  rw [decide_eq_true h] at g
  cases g
theorem ne_yes {x y : V} (g : ¬ (!decide (x = y)) = true) : x = y := by
  by_cases h : x = y
  · exact h
  · rw [decide_eq_false h] at g
    exact absurd rfl g
theorem ne_ne {x y : V} (g : (!decide (x = y)) = true) : ¬ x = y := fun h => ne_no h g
theorem atI_neg1 {ts : List V} {z : V} (h : ts[ts.length - 1]? = some z) : atI ts (-1) = some z := by
  have hl := (List.getElem?_eq_some_iff.mp h).1
  have e : ts = ts.dropLast ++ [z] := by
    have hne : ts ≠ [] := by intro q; subst q; simp at hl
    have := List.dropLast_concat_getLast hne
    rw [List.getLast_eq_getElem] at this
    rw [(List.getElem?_eq_some_iff.mp h).2] at this
    exact this.symm
  rw [e]
  exact atI_last _ _
theorem RowAt.same {H H' : Hp} {v : V} {zs : List Str} (h : RowAt H v zs) (k : Same H H') : RowAt H' v zs := by
  obtain ⟨a, e, q⟩ := h
  exact ⟨a, e, q.elim (fun r => .inl (k _ _ r)) fun r => .inr (k _ _ r)⟩
theorem IsInts.back {A : Addr → Prop} {H H' : Hp} {v : V} {m : Int} (D : Dat A H v) (k : Same H H') (h : IsInts H' v m) : IsInts H v m := by
  obtain ⟨ks, ⟨a, rfl, h'⟩, hl⟩ := h
  cases D with
  | lst a xs h1 h2 h3 => rw [k _ _ h2] at h'; cases h'
  | tup a xs h1 h2 h3 => rw [k _ _ h2] at h'; cases h'; exact ⟨ks, ⟨a, rfl, h2⟩, hl⟩
  | dK a kvs h1 h2 h3 => rw [k _ _ h2] at h'; cases h'
theorem intT_fn {H : Hp} {v : V} {x y : List Int} (h : IntT H v x) (g : IntT H v y) : x = y := by
  obtain ⟨a, rfl, h⟩ := h
  obtain ⟨b, e, g⟩ := g
  cases e
  rw [h] at g
  have e : x.map V.int = y.map V.int := by injection g with g; injection g
  have inj : ∀ xs ys : List Int, xs.map V.int = ys.map V.int → xs = ys := by
    intro xs
    induction xs with
    | nil => intro ys h; cases ys with | nil => rfl | cons y t => cases h
    | cons x t ih =>
      intro ys h
      cases ys with
      | nil => cases h
      | cons y u =>
        rw [List.map_cons, List.map_cons] at h
        injection h with h1 h2
        injection h1 with h1
        rw [h1, ih u h2]
  exact inj _ _ e
theorem ints_fn {H : Hp} {n : Int} : ∀ {ts : List V} {hs hs' : List (List Int)}, Paired (fun z ks => IntT H z ks ∧ (ks.length : Int) = n) ts hs → Paired (fun z ks => IntT H z ks ∧ (ks.length : Int) = n) ts hs' → hs = hs'
  | [], _, _, .nil, .nil => rfl
  | z :: t, _, _, .cons r p, .cons r' p' => by rw [intT_fn r.1 r'.1, ints_fn p p']
theorem floorIs_of {H : Hp} {n : Int} {ws : List (List Int)} {rs : List (List (Option Int))} {a : Addr} {ts : List V} {hs : List (List Int)} (h : SeqAt' H a ts) (hl : ts.length = rs.length + 1) (hp : Paired (fun z ks => IntT H z ks ∧ (ks.length : Int) = n) ts hs) :
    FloorIs n ws rs H (.ref a) ↔ FlOk n.toNat ws rs hs := by
  constructor
  · rintro ⟨a', ts', hs', e, h1, h2, h3, h4⟩
    cases e
    obtain rfl := h.fn h1
    rw [ints_fn hp h3]; exact h4
  · exact fun h4 => ⟨a, ts, hs, rfl, h, hl, hp, h4⟩
theorem FloorIs.ints {H : Hp} {n : Int} {ws : List (List Int)} {rs : List (List (Option Int))} {a : Addr} {ts : List V} (h : FloorIs n ws rs H (.ref a)) (g : SeqAt' H a ts) : ts.length = rs.length + 1 ∧ ∀ i, i < ts.length → IsInts H (ts.getD i .non) n := by
  obtain ⟨a', ts', hs', e, h1, h2, h3, h4⟩ := h
  cases e
  obtain rfl := g.fn h1
  refine ⟨h2, fun i hi => ?_⟩
  obtain ⟨ks, hk, r⟩ := prd_at1 h3 (List.getElem?_eq_getElem hi)
  refine ⟨ks, ?_, r.2⟩
  rw [List.getD_eq_getElem?_getD, List.getElem?_eq_getElem hi]
  exact r.1
def spIsIntegersG : Sp := fun vs H Q _ => ∃ (v : V) (A : Addr → Prop) (m : Int), vs = [v, .int m] ∧ Dat A H v ∧ m ≤ 900 ∧ ∀ b H', Same H H' → (b = true ↔ IsInts H v m) → Q (.bl b) H'
def spIsFloorG (C : Addr) : Sp := fun vs H Q _ => ∃ (p : Addr) (S : Sys) (rv : V) (zs : List Str) (rs : List (List (Option Int))) (c : Int) (v : V) (A : Addr → Prop), vs = [.ref p, rv, .int c, v] ∧ SysOk S ∧ SysAt C H p S ∧ RowAt H rv zs ∧ RowsOf S zs rs ∧ zs.length ≤ 900 ∧
  Dat A H v ∧ ∀ b H', Same H H' → (b = true ↔ (FloorIs S.n S.ws rs H v ∧ ∃ x, headOf H v x ∧ c ≤ x)) → Q (.bl b) H'
section
variable {P : Program} {w : World} {K : PySem.W.Frag} {mg : Str → Option Value} {base : Heap}
theorem ok__is_integers (T : Top K mg) : Ok P w K mg base 2 "_is_integers" ["thing", "many"] spIsIntegersG := by
  refine ok_of T.d__is_integers sc__is_integers (fun vs H Q E h => ?_) (fun f cdv A outer s H vs Q E hr h => ?_)
  · obtain ⟨v, A, m, rfl, _⟩ := h
    rfl
  · obtain ⟨v, A, m, rfl, hD, hm, k⟩ := h
    obtain ⟨f_is_integer, fd_is_integer, m_is_integer, k_is_integer, b_is_integer, G_is_integer⟩ := ok_is_integer (P := P) (w := w) (base := base) T
    have hr_is_integer : Room 1 _ := hr.mono (by decide)
    obtain ⟨f_is_tuple_of, fd_is_tuple_of, m_is_tuple_of, k_is_tuple_of, b_is_tuple_of, G_is_tuple_of⟩ := ok_is_tuple_of (P := P) (w := w) (base := base) T
    have hr_is_tuple_of : Room 1 _ := hr.mono (by decide)
    obtain ⟨n, hn⟩ := hD.ty
    refine ⟨_, (pss_one (ps_ret (pe_and (pe_call G_is_tuple_of hr_is_tuple_of rfl m_is_tuple_of k_is_tuple_of b_is_tuple_of .nil pass0 (pa_cons (pv 0) (pa_cons (pv 1) pa_nil))) (pe_one (pe_callB (id := "all") (cr_all rfl) (by rfl) T.b_all (by decide +kernel) (pa_cons (pe_lc (own := [("item", 2)]) (g := gName 2) rfl sc__is_integers.nd (pi_tup (pv 0)) (blkOk_by (own := [("item", 2)]) (N := ["thing", "many", "item"]) (sc := defScope s__is_integers) (by decide +kernel)) (fun _ _ _ _ _ => (pg_name (i := 2) sc__is_integers.nd rfl (Or.inl rfl))) (fun _ _ _ _ _ => pts_nil) (fun _ _ _ _ _ => (pe_call G_is_integer hr_is_integer rfl m_is_integer k_is_integer b_is_integer .nil pass0 (pa_cons (pv 2) pa_nil)))) pa_nil)))))), ?_⟩
    walk_at "rk"
    refine ⟨_, n, _, rfl, hn, ?_⟩
    refine ⟨_, rfl, ?_⟩
    refine ite2 (fun g => ?_) (fun g => ?_)
    · obtain ⟨a, xs, rfl, ha, hl⟩ := isTup_yes g
      refine ⟨_, rfl, a, rfl, ⟨_, SqT.of ha⟩, fun D nD => ?_⟩
      refine lc_tup (K := K) (a := a) (xs := xs) (fun j H4 => ∃ bs, Told (fun i => isI (xs.getD i .non) = true) j bs ∧ H4 D = some (.lst (bs.map V.bl)) ∧ Same H H4) ⟨[], .nil, upd_same, same_new nD⟩ (fun j H4 _ ⟨_, _, _, h4⟩ => SqT.of (h4 _ _ ha)) ?_ ?_
      · rintro j z H4 hj ⟨bs, q0, q1, q2⟩
        have hjl := (List.getElem?_eq_some_iff.mp hj).1
        have hz := (hD.item (.inl ha) (List.mem_of_getElem? hj)).same q2
        obtain ⟨nz, hnz⟩ := hz.ty
        refine ⟨rfl, ?_⟩
        refine yesT ?_
        refine ⟨_, rfl, _, nz, rfl, hnz, ?_⟩
        refine ⟨_, q1, ?_, bs ++ [isI z], q0.snoc ?_, ?_, same_upd q2 nD⟩
        · rw [List.length_map, q0.len]; exact small1000 (by omega)
        · rw [List.getD_eq_getElem?_getD, hj]; exact Iff.rfl
        · rw [upd_same, ← bl_snoc]
      · rintro H4 ⟨bs, q0, q1, q2⟩
        walk_at "rr"
        refine k _ _ q2 ?_
        rw [q0.all, isInts_of rfl ha]
        exact ⟨fun h => ⟨hl, h⟩, fun h => h.2⟩
    · refine k _ _ (Same.refl _) ⟨fun e => (nomatch e), fun e => absurd e (isInts_no (by simpa using g))⟩
theorem ok_is_floor (T : Top K mg) : Ok P w K mg base 5 "is_floor" ["system", "row", "price", "thing"] (spIsFloorG T.c_System) := by
  refine ok_of T.d_is_floor sc_is_floor (fun vs H Q E h => ?_) (fun f cdv A outer s H vs Q E hr h => ?_)
  · obtain ⟨p, S, rv, zs, rs, c, v, A, rfl, _⟩ := h
    rfl
  · obtain ⟨p, S, rv, zs, rs, c, v, A, rfl, ok, SA, hrv, hrs, hz9, hD, k⟩ := h
    obtain ⟨f_is_row, fd_is_row, m_is_row, k_is_row, b_is_row, G_is_row⟩ := ok_is_row (P := P) (w := w) (base := base) T
    have hr_is_row : Room 1 _ := hr.mono (by decide)
    obtain ⟨f__is_integers, fd__is_integers, m__is_integers, k__is_integers, b__is_integers, G__is_integers⟩ := ok__is_integers (P := P) (w := w) (base := base) T
    have hr__is_integers : Room 2 _ := hr.mono (by decide)
    obtain ⟨f__ceilings, fd__ceilings, m__ceilings, k__ceilings, b__ceilings, G__ceilings⟩ := ok__ceilings (P := P) (w := w) (base := base) T
    have hr__ceilings : Room 4 _ := hr.mono (by decide)
    have hu64 := hr.units
    have hlen := prd_len hrs
    have n1 := ok.n1
    have n6 := ok.n6
    obtain ⟨n, hn⟩ := hD.ty
    obtain ⟨l, rfl, hl⟩ := hrv
    refine ⟨_, (pss_cons (ps_if (PW.pt (pw_or (pt_not (pt_val (pe_call G_is_row hr_is_row rfl m_is_row k_is_row b_is_row .nil pass0 (pa_cons (pv 3) pa_nil)))) (pw_or1 (pt_cmpR op_ne (pe_callB (id := "len") call_len_seq (by rfl) T.b_len (by decide +kernel) (pa_cons (pv 3) pa_nil)) (pe_op op_add (pe_callB (id := "len") call_len_seq (by rfl) T.b_len (by decide +kernel) (pa_cons (pv 1) pa_nil)) pe_int) (nomark _)))))
      (pss_one (ps_ret pe_bl))
      pss_nil)
      (pss_cons (ps_if (pt_not (pt_val (pe_callB (id := "all") (cr_all rfl) (by rfl) T.b_all (by decide +kernel) (pa_cons (pe_lc (own := [("items", 7)]) (g := gName 7) rfl sc_is_floor.nd (pi_or (pi_list (pv 3)) (pi_tup (pv 3))) (blkOk_by (own := [("items", 7)]) (N := ["system", "row", "price", "thing", "index", "name", "most", "items", "item", "ceiling"]) (sc := defScope s_is_floor) (by decide +kernel)) (fun _ _ _ _ _ => (pg_name (i := 7) sc_is_floor.nd rfl (Or.inl rfl))) (fun _ _ _ _ _ => pts_nil) (fun _ _ _ _ _ => (pe_call G__is_integers hr__is_integers rfl m__is_integers k__is_integers b__is_integers .nil pass0 (pa_cons (pv 7) (pa_cons (pe_fld (pv 0) rfl : PE _ _ (tFld K _ _)) pa_nil))))) pa_nil))))
      (pss_one (ps_ret pe_bl))
      pss_nil)
      (pss_cons (ps_if (pt_cmpR op_gt (pe_callB (id := "max") (cr_maxT rfl hu64) (by rfl) T.b_max (by decide +kernel) (pa_cons (pe_ix (ix_list.or ix_tup) (pv 3) (pe_un un_neg pe_int) (fun _ _ => rfl)) pa_nil)) pe_int (nomark _))
      (pss_one (ps_ret pe_bl))
      pss_nil)
      (pss_cons (ps_for PassesOwn.never rfl (pi_or (pi_enum (by rfl) T.b_enumerate (pa_cons (pv 1) pa_nil)) (pi_enumT (by rfl) T.b_enumerate (pa_cons (pv 1) pa_nil))) (pg_tup rfl (pgs_cons (pg_name (i := 4) sc_is_floor.nd rfl (Or.inl rfl)) (pgs_cons (pg_name (i := 5) sc_is_floor.nd rfl (Or.inl rfl)) pgs_nil)))
      (pss_cons (ps_set (i := 6) sc_is_floor.nd rfl (Or.inl rfl) (pe_call G__ceilings hr__ceilings rfl m__ceilings k__ceilings b__ceilings .nil pass0 (pa_cons (pv 0) (pa_cons (pv 5) (pa_cons (pe_ix (ix_list.or ix_tup) (pv 3) (pe_op op_add (pv 4) pe_int) (fun _ _ => rfl)) pa_nil)))))
      (pss_one (ps_if (pt_val (pe_callB (id := "any") (cr_any rfl) (by rfl) T.b_any (by decide +kernel) (pa_cons (pe_lc (own := [("item", 8), ("ceiling", 9)]) rfl sc_is_floor.nd (RZ.pi_zipA (by rfl) T.b_zip (pa_cons (pe_ix (ix_list.or ix_tup) (pv 3) (pv 4) (fun _ _ => rfl)) (pa_cons (pv 6) pa_nil))) (blkOk_by (own := [("item", 8), ("ceiling", 9)]) (N := ["system", "row", "price", "thing", "index", "name", "most", "items", "item", "ceiling"]) (sc := defScope s_is_floor) (by decide +kernel)) (fun _ _ _ _ _ => ((pg_tup rfl (pgs_cons (pg_name (i := 8) sc_is_floor.nd rfl (Or.inl rfl)) (pgs_cons (pg_name (i := 9) sc_is_floor.nd rfl (Or.inl rfl)) pgs_nil))) : PG _ _ (gTup K 2 (gCons (gName 8) (gCons (gName 9) gNil))))) (fun _ _ _ _ _ => pts_nil) (fun _ _ _ _ _ => (pe_cmpR op_gt (pv 8) (pv 9) (nomark _)))) pa_nil)))
      (pss_one (ps_ret pe_bl))
      pss_nil))))
      (pss_one (ps_ret (pe_cmpR op_ge (pe_ix ix_tup (pe_ix (ix_list.or ix_tup) (pv 3) pe_int (fun _ _ => rfl)) pe_int (fun _ _ => rfl)) (pv 2) (nomark _)))))))), ?_⟩
    refine ⟨_, rfl, _, n, rfl, hn, fun H1 s1 => ?_⟩
    cases hn2 : (n == "list" || n == "tuple") with
    | false =>
      refine ⟨false, rfl, ?_⟩
      walk_at "k"
      refine k false _ s1 ⟨fun e => (nomatch e), fun ⟨⟨a, ts, hs, e, h1, _⟩, _⟩ => ?_⟩
      subst e
      obtain ⟨n', hn', hn3⟩ := h1.ty
      rw [hn] at hn'
      cases hn'
      rw [hn2] at hn3; cases hn3
    | true =>
      obtain ⟨a, ts, rfl, hs0⟩ := tyN_seq hn hn2
      refine ⟨true, rfl, ?_⟩
      walk_at "k"
      have hl' : SeqAt' H l (zs.map V.str) := hl
      refine ⟨_, rfl, a, ts, rfl, (hs0.same s1).len, ?_⟩
      refine ⟨_, rfl, l, _, rfl, (hl'.same s1).len, _, _, rfl, rfl, rfl, _, rfl, ?_⟩
      refine ite2 (fun g => ?_) (fun g => ?_)
      · refine k false _ s1 ⟨fun e => (nomatch e), fun ⟨hF, _⟩ => ?_⟩
        have := (hF.ints hs0).1
        exact absurd (by rw [List.length_map]; congr 1; omega) (ne_ne g)
      have htl : ts.length = rs.length + 1 := by
        have := ne_yes g
        rw [List.length_map] at this
        have : (ts.length : Int) = (zs.length : Int) + 1 := by injection this
        omega
      rcases hs0 with e1 | e1
      · have hs0 : SeqAt' H a ts := .inl e1
        refine .inr ⟨_, rfl, a, rfl, ⟨_, SqT.of (s1 _ _ e1)⟩, fun D nD => ?_⟩
        refine lc_tup (K := K) (a := a) (xs := ts) (fun j H4 => ∃ bs, Told (fun i => IsInts H (ts.getD i .non) S.n) j bs ∧ H4 D = some (.lst (bs.map V.bl)) ∧ Same H1 H4) ⟨[], .nil, upd_same, same_new nD⟩ (fun j H4 _ ⟨_, _, _, h4⟩ => SqT.of (h4 _ _ (s1 _ _ e1))) ?_ ?_
        · rintro j z H4 hj ⟨bs, q0, q1, q2⟩
          have hjl := (List.getElem?_eq_some_iff.mp hj).1
          have hzD := hD.item hs0 (List.mem_of_getElem? hj)
          have q2' := s1.trans q2
          obtain ⟨dx, mv, na, wv, q, kvs, hpp, _⟩ := SA.ex
          refine ⟨rfl, ?_⟩
          refine yesT ?_
          refine ⟨_, rfl, _, rfl, p, T.c_System, dx, _, _, rfl, q2' _ _ hpp, T.cl_System, T.na_System_posts, sfs_posts, z, A, S.n, rfl, hzD.same q2', by have := ok.n6; omega, fun b H5 s5 hb => ?_⟩
          refine ⟨_, s5 _ _ q1, ?_, bs ++ [b], q0.snoc ?_, ?_, same_upd (q2.trans s5) nD⟩
          · rw [List.length_map, q0.len]; exact small1000 (by omega)
          · rw [hb, List.getD_eq_getElem?_getD, hj]
            exact ⟨fun h => IsInts.back hzD q2' h, fun h => h.same q2'⟩
          · rw [upd_same, ← bl_snoc]
        · rintro H4 ⟨bs, q0, q1, q2⟩
          have s14 := s1.trans q2
          refine ⟨D, _, rfl, SqL.of q1, ?_⟩
          refine ⟨_, rfl, ?_⟩
          refine ite2 (fun g => ?_) (fun g => ?_)
          · refine k false _ s14 ⟨fun e => (nomatch e), fun ⟨hF, _⟩ => ?_⟩
            have := q0.all.mpr (hF.ints hs0).2
            rw [this] at g; cases g
          have hints := q0.all.mp (by cases hb : bs.all id with | true => rfl | false => rw [hb] at g; exact absurd rfl g)
          obtain ⟨hs, hp⟩ := paired_ints hints
          have hhl : hs.length = ts.length := (prd_len hp).symm
          obtain ⟨last, hlast⟩ : ∃ z, ts[ts.length - 1]? = some z := ⟨_, List.getElem?_eq_getElem (by omega)⟩
          obtain ⟨k0, hk0, hk1, hk2⟩ := prd_at1 hp hlast
          have hm1 : atI ts (-1) = some last := atI_neg1 hlast
          obtain ⟨lb, rfl, hlb⟩ := IntT.firm H H4 _ _ (same_tups s14) hk1
          obtain ⟨u0, us, rfl⟩ : ∃ u us, k0 = u :: us := by
            cases k0 with
            | nil => simp at hk2; omega
            | cons u us => exact ⟨u, us, rfl⟩
          have hlk : hs.getD rs.length [] = u0 :: us := by
            rw [List.getD_eq_getElem?_getD, show rs.length = ts.length - 1 by omega, hk0]; rfl
          refine ⟨_, rfl, _, rfl, ?_⟩
          refine SeqAt'.ix (K := K) (hs0.same s14) hm1 ?_
          refine ⟨lb, u0, us, rfl, SqT.of hlb, ?_⟩
          refine ⟨_, _, rfl, rfl, _, rfl, ?_⟩
          refine ite2 (fun g => ?_) (fun g => ?_)
          · refine k false _ s14 ⟨fun e => (nomatch e), fun ⟨hF, _⟩ => ?_⟩
            exfalso
            have hl0 := ((floorIs_of hs0 htl hp).mp hF).last
            rw [hlk] at hl0
            have hgt : 0 < us.foldl max u0 := of_decide_eq_true g
            have : us.foldl max u0 ≤ 0 := (foldl_max_le us u0 0).mpr ⟨by simpa using hl0 0 (by omega), fun x hx => by
              obtain ⟨i, hi⟩ := List.getElem?_of_mem hx
              have hil := (List.getElem?_eq_some_iff.mp hi).1
              have := hl0 (i + 1) (by rw [List.length_cons] at hk2; omega)
              rw [List.getD_eq_getElem?_getD, List.getElem?_cons_succ, hi] at this
              exact this⟩
            omega
          have hlast0 : ∀ a, a < S.n.toNat → (hs.getD rs.length []).getD a 0 ≤ 0 := by
            rw [hlk]
            have hle : us.foldl max u0 ≤ 0 := le_not fun h => absurd (decide_eq_true h) g
            have := (foldl_max_le us u0 0).mp hle
            intro a ha
            rw [List.getD_eq_getElem?_getD, List.getElem?_eq_getElem (by rw [List.length_cons] at hk2 ⊢; omega)]
            rcases List.mem_cons.mp (List.getElem_mem (by rw [List.length_cons] at hk2 ⊢; omega : a < (u0 :: us).length)) with e | e
            · show (u0 :: us)[a] ≤ 0
              rw [e]; exact this.1
            · exact this.2 _ e
          rcases hl with hl0 | hl0
          · refine .inr ⟨_, rfl, l, _, rfl, SqT.of (s14 _ _ hl0), ?_⟩
            refine for_it walk_enumT (fun i σ' H5 => Same H4 H5 ∧ (∀ kk row, kk < i → rs[kk]? = some row → ∀ a b q, a < S.n.toNat → b < S.n.toNat → row.getD b none = some q → (hs.getD kk []).getD a 0 ≤ mat S.ws a b + q + (hs.getD (kk + 1) []).getD b 0) ∧ ∃ o4 o5 o6 : Option V, σ' = [some (.ref p), some (.ref l), some (.int c), some (.ref a), o4, o5, o6, none, none, none]) ⟨Same.refl _, fun kk _ h => absurd h (Nat.not_lt_zero _), none, none, none, rfl⟩ (fun i σ' H5 _ h5 => SqT.of (h5.1 _ _ (s14 _ _ hl0))) ?_ ?_
            · rintro i x σ' H5 H6 hi ⟨s5, q5, o4, o5, o6, rfl⟩ ⟨tp, x', y', rfl, np, rfl, e3, ey⟩
              cases e3
              obtain ⟨z, hz, rfl⟩ := map_at ey
              have hzi := (List.getElem?_eq_some_iff.mp hz).1
              obtain ⟨row, hrow, hrm⟩ := prd_at1 hrs hz
              have s6 : Same H5 (upd H5 tp (.tup [.int (i : Nat), .str z])) := same_new np
              have s16 : Same H (upd H5 tp (.tup [.int (i : Nat), .str z])) := s14.trans (s5.trans s6)
              obtain ⟨zi, hzi1⟩ : ∃ y, ts[i]? = some y := ⟨_, List.getElem?_eq_getElem (by omega)⟩
              obtain ⟨zj, hzj1⟩ : ∃ y, ts[i + 1]? = some y := ⟨_, List.getElem?_eq_getElem (by omega)⟩
              obtain ⟨ki, hki, hki2, hki3⟩ := prd_at1 hp hzi1
              obtain ⟨kj, hkj, hkj2, hkj3⟩ := prd_at1 hp hzj1
              refine ⟨tp, _, rfl, SqT.of upd_same, rfl, _, _, rfl, _, _, rfl, rfl, ?_⟩
              refine ⟨_, rfl, _, rfl, _, rfl, _, rfl, _, _, rfl, rfl, ?_⟩
              refine SeqAt'.ix (K := K) (hs0.same s16) (atI_nat (j := i + 1) hzj1) ?_
              refine ⟨p, S, z, row, zj, kj, rfl, ok, SA.same s16, hrm, IntT.firm H _ _ _ (same_tups s16) hkj2, hkj3, fun most H7 s7 hmost => ?_⟩
              obtain ⟨mb, rfl, hmb⟩ := hmost
              have s17 := s16.trans s7
              obtain ⟨ib, rfl, hib⟩ := IntT.firm H H7 _ _ (same_tups s17) hki2
              refine ⟨_, rfl, _, rfl, ?_⟩
              refine SeqAt'.ix (K := K) (hs0.same s17) (atI_nat hzi1) ?_
              refine ⟨_, rfl, ib, mb, _, _, rfl, .inr ⟨SqT.of hib, SqT.of hmb, fun D2 nD2 => ?_⟩⟩
              have hcl : (ceil S.n.toNat S.ws row kj).length = S.n.toNat := ceil_len
              refine lc_it (walk_zipT (n := S.n.toNat) (by rw [List.length_map, List.length_map]; omega)) (fun j H8 => ∃ bs, Told (fun x => (ceil S.n.toNat S.ws row kj).getD x 0 < ki.getD x 0) j bs ∧ H8 D2 = some (.lst (bs.map V.bl)) ∧ Same H7 H8) ⟨[], .nil, upd_same, same_new nD2⟩ (fun j H8 _ ⟨_, _, _, h8⟩ => ⟨SqT.of (h8 _ _ hib), SqT.of (h8 _ _ hmb)⟩) ?_ ?_
              · rintro j x H8 H9 hj ⟨bs, f0, f1, f2⟩ ⟨tp2, x2, y2, rfl, np2, rfl, g3, g4⟩
                obtain ⟨u, hu1, rfl⟩ := map_at g3
                obtain ⟨u', hu2, rfl⟩ := map_at g4
                have s9 : Same H8 (upd H8 tp2 (.tup [.int u, .int u'])) := same_new np2
                refine ⟨tp2, _, rfl, SqT.of upd_same, rfl, _, _, rfl, _, _, rfl, rfl, rfl, ?_⟩
                refine yesT ?_
                refine ⟨_, rfl, _, rfl, _, _, rfl, rfl, ?_⟩
                refine ⟨_, s9 _ _ f1, ?_, bs ++ [decide (u' < u)], f0.snoc ?_, ?_, same_upd (f2.trans s9) nD2⟩
                · rw [List.length_map, f0.len]; exact small1000 (by omega)
                · rw [decide_eq_true_iff, List.getD_eq_getElem?_getD, List.getD_eq_getElem?_getD, hu1, hu2]
                  exact Iff.rfl
                · rw [upd_same, ← bl_snoc]
              · rintro H8 ⟨bs, f0, f1, f2⟩
                refine ⟨D2, _, rfl, SqL.of f1, ?_⟩
                have s18 := s17.trans f2
                have hci := ceil_iff (n := S.n.toNat) (ws := S.ws) (row := row) (ah := kj) (ks := ki) (fun a => chs_ne (ok.pr _ hrm).1)
                refine ⟨_, rfl, ?_⟩
                refine ite2 (fun g => ?_) (fun g => ?_)
                · obtain ⟨x, hx, hlt⟩ := f0.any.mp g
                  refine k false _ s18 ⟨fun e => (nomatch e), fun ⟨hF, _⟩ => ?_⟩
                  exfalso
                  have hst := ((floorIs_of hs0 htl hp).mp hF).step i row hrow
                  have hle := hci.mpr (fun a b q ha hb hq => by
                    have := hst a b q ha hb hq
                    rw [getD_at hki, getD_at hkj] at this
                    exact this) x hx
                  omega
                · refine ⟨(s5.trans s6).trans (s7.trans f2), fun kk row' hkk hrow' => ?_, _, _, _, rfl⟩
                  by_cases hki' : kk < i
                  · exact q5 kk row' hki' hrow'
                  · obtain rfl : kk = i := by omega
                    rw [hrow] at hrow'
                    cases hrow'
                    rw [getD_at hki, getD_at hkj]
                    refine hci.mp fun a ha => ?_
                    refine le_not fun h => ?_
                    exact absurd (f0.any.mpr ⟨a, ha, h⟩) g
            · rintro σ' H5 ⟨s5, q5, o4, o5, o6, rfl⟩
              obtain ⟨z0, hz0⟩ : ∃ y, ts[0]? = some y := ⟨_, List.getElem?_eq_getElem (by omega)⟩
              have s15 := s14.trans s5
              obtain ⟨kz, hkz, hkz2, hkz3⟩ := prd_at1 hp hz0
              obtain ⟨zb0, rfl, hzb0⟩ := hkz2
              have hzb := s15 _ _ hzb0
              refine ⟨_, rfl, ?_⟩
              refine SeqAt'.ix (K := K) (hs0.same s15) (atI_nat (j := 0) hz0) ?_
              refine ⟨zb0, _, (0 : Nat), .int (kz.getD 0 0), rfl, rfl, SqT.of hzb, atI_nat (by rw [List.getElem?_map, getDat 0 (by omega)]; rfl), ?_⟩
              refine ⟨_, rfl, _, _, rfl, rfl, ?_⟩
              have hFl : FlOk S.n.toNat S.ws rs hs := ⟨hlast0, fun kk row hrow => by
                refine q5 kk row ?_ hrow
                rw [List.length_map, hlen]
                exact (List.getElem?_eq_some_iff.mp hrow).1⟩
              refine k _ _ s15 ?_
              rw [decide_eq_true_iff]
              constructor
              · exact fun h => ⟨(floorIs_of hs0 htl hp).mpr hFl, _, ⟨a, ts, zb0, kz, rfl, hs0, hz0, hzb0, rfl⟩, h⟩
              · rintro ⟨_, x, hx, hc⟩
                rw [hx.fn ⟨a, ts, zb0, kz, rfl, hs0, hz0, hzb0, rfl⟩] at hc
                exact hc
          · refine .inl ⟨_, rfl, l, _, rfl, SqL.of (s14 _ _ hl0), ?_⟩
            refine for_it walk_enum (fun i σ' H5 => Same H4 H5 ∧ (∀ kk row, kk < i → rs[kk]? = some row → ∀ a b q, a < S.n.toNat → b < S.n.toNat → row.getD b none = some q → (hs.getD kk []).getD a 0 ≤ mat S.ws a b + q + (hs.getD (kk + 1) []).getD b 0) ∧ ∃ o4 o5 o6 : Option V, σ' = [some (.ref p), some (.ref l), some (.int c), some (.ref a), o4, o5, o6, none, none, none]) ⟨Same.refl _, fun kk _ h => absurd h (Nat.not_lt_zero _), none, none, none, rfl⟩ (fun i σ' H5 _ h5 => SqL.of (h5.1 _ _ (s14 _ _ hl0))) ?_ ?_
            · rintro i x σ' H5 H6 hi ⟨s5, q5, o4, o5, o6, rfl⟩ ⟨tp, x', y', rfl, np, rfl, e3, ey⟩
              cases e3
              obtain ⟨z, hz, rfl⟩ := map_at ey
              have hzi := (List.getElem?_eq_some_iff.mp hz).1
              obtain ⟨row, hrow, hrm⟩ := prd_at1 hrs hz
              have s6 : Same H5 (upd H5 tp (.tup [.int (i : Nat), .str z])) := same_new np
              have s16 : Same H (upd H5 tp (.tup [.int (i : Nat), .str z])) := s14.trans (s5.trans s6)
              obtain ⟨zi, hzi1⟩ : ∃ y, ts[i]? = some y := ⟨_, List.getElem?_eq_getElem (by omega)⟩
              obtain ⟨zj, hzj1⟩ : ∃ y, ts[i + 1]? = some y := ⟨_, List.getElem?_eq_getElem (by omega)⟩
              obtain ⟨ki, hki, hki2, hki3⟩ := prd_at1 hp hzi1
              obtain ⟨kj, hkj, hkj2, hkj3⟩ := prd_at1 hp hzj1
              refine ⟨tp, _, rfl, SqT.of upd_same, rfl, _, _, rfl, _, _, rfl, rfl, ?_⟩
              refine ⟨_, rfl, _, rfl, _, rfl, _, rfl, _, _, rfl, rfl, ?_⟩
              refine SeqAt'.ix (K := K) (hs0.same s16) (atI_nat (j := i + 1) hzj1) ?_
              refine ⟨p, S, z, row, zj, kj, rfl, ok, SA.same s16, hrm, IntT.firm H _ _ _ (same_tups s16) hkj2, hkj3, fun most H7 s7 hmost => ?_⟩
              obtain ⟨mb, rfl, hmb⟩ := hmost
              have s17 := s16.trans s7
              obtain ⟨ib, rfl, hib⟩ := IntT.firm H H7 _ _ (same_tups s17) hki2
              refine ⟨_, rfl, _, rfl, ?_⟩
              refine SeqAt'.ix (K := K) (hs0.same s17) (atI_nat hzi1) ?_
              refine ⟨_, rfl, ib, mb, _, _, rfl, .inr ⟨SqT.of hib, SqT.of hmb, fun D2 nD2 => ?_⟩⟩
              have hcl : (ceil S.n.toNat S.ws row kj).length = S.n.toNat := ceil_len
              refine lc_it (walk_zipT (n := S.n.toNat) (by rw [List.length_map, List.length_map]; omega)) (fun j H8 => ∃ bs, Told (fun x => (ceil S.n.toNat S.ws row kj).getD x 0 < ki.getD x 0) j bs ∧ H8 D2 = some (.lst (bs.map V.bl)) ∧ Same H7 H8) ⟨[], .nil, upd_same, same_new nD2⟩ (fun j H8 _ ⟨_, _, _, h8⟩ => ⟨SqT.of (h8 _ _ hib), SqT.of (h8 _ _ hmb)⟩) ?_ ?_
              · rintro j x H8 H9 hj ⟨bs, f0, f1, f2⟩ ⟨tp2, x2, y2, rfl, np2, rfl, g3, g4⟩
                obtain ⟨u, hu1, rfl⟩ := map_at g3
                obtain ⟨u', hu2, rfl⟩ := map_at g4
                have s9 : Same H8 (upd H8 tp2 (.tup [.int u, .int u'])) := same_new np2
                refine ⟨tp2, _, rfl, SqT.of upd_same, rfl, _, _, rfl, _, _, rfl, rfl, rfl, ?_⟩
                refine yesT ?_
                refine ⟨_, rfl, _, rfl, _, _, rfl, rfl, ?_⟩
                refine ⟨_, s9 _ _ f1, ?_, bs ++ [decide (u' < u)], f0.snoc ?_, ?_, same_upd (f2.trans s9) nD2⟩
                · rw [List.length_map, f0.len]; exact small1000 (by omega)
                · rw [decide_eq_true_iff, List.getD_eq_getElem?_getD, List.getD_eq_getElem?_getD, hu1, hu2]
                  exact Iff.rfl
                · rw [upd_same, ← bl_snoc]
              · rintro H8 ⟨bs, f0, f1, f2⟩
                refine ⟨D2, _, rfl, SqL.of f1, ?_⟩
                have s18 := s17.trans f2
                have hci := ceil_iff (n := S.n.toNat) (ws := S.ws) (row := row) (ah := kj) (ks := ki) (fun a => chs_ne (ok.pr _ hrm).1)
                refine ⟨_, rfl, ?_⟩
                refine ite2 (fun g => ?_) (fun g => ?_)
                · obtain ⟨x, hx, hlt⟩ := f0.any.mp g
                  refine k false _ s18 ⟨fun e => (nomatch e), fun ⟨hF, _⟩ => ?_⟩
                  exfalso
                  have hst := ((floorIs_of hs0 htl hp).mp hF).step i row hrow
                  have hle := hci.mpr (fun a b q ha hb hq => by
                    have := hst a b q ha hb hq
                    rw [getD_at hki, getD_at hkj] at this
                    exact this) x hx
                  omega
                · refine ⟨(s5.trans s6).trans (s7.trans f2), fun kk row' hkk hrow' => ?_, _, _, _, rfl⟩
                  by_cases hki' : kk < i
                  · exact q5 kk row' hki' hrow'
                  · obtain rfl : kk = i := by omega
                    rw [hrow] at hrow'
                    cases hrow'
                    rw [getD_at hki, getD_at hkj]
                    refine hci.mp fun a ha => ?_
                    refine le_not fun h => ?_
                    exact absurd (f0.any.mpr ⟨a, ha, h⟩) g
            · rintro σ' H5 ⟨s5, q5, o4, o5, o6, rfl⟩
              obtain ⟨z0, hz0⟩ : ∃ y, ts[0]? = some y := ⟨_, List.getElem?_eq_getElem (by omega)⟩
              have s15 := s14.trans s5
              obtain ⟨kz, hkz, hkz2, hkz3⟩ := prd_at1 hp hz0
              obtain ⟨zb0, rfl, hzb0⟩ := hkz2
              have hzb := s15 _ _ hzb0
              refine ⟨_, rfl, ?_⟩
              refine SeqAt'.ix (K := K) (hs0.same s15) (atI_nat (j := 0) hz0) ?_
              refine ⟨zb0, _, (0 : Nat), .int (kz.getD 0 0), rfl, rfl, SqT.of hzb, atI_nat (by rw [List.getElem?_map, getDat 0 (by omega)]; rfl), ?_⟩
              refine ⟨_, rfl, _, _, rfl, rfl, ?_⟩
              have hFl : FlOk S.n.toNat S.ws rs hs := ⟨hlast0, fun kk row hrow => by
                refine q5 kk row ?_ hrow
                rw [List.length_map, hlen]
                exact (List.getElem?_eq_some_iff.mp hrow).1⟩
              refine k _ _ s15 ?_
              rw [decide_eq_true_iff]
              constructor
              · exact fun h => ⟨(floorIs_of hs0 htl hp).mpr hFl, _, ⟨a, ts, zb0, kz, rfl, hs0, hz0, hzb0, rfl⟩, h⟩
              · rintro ⟨_, x, hx, hc⟩
                rw [hx.fn ⟨a, ts, zb0, kz, rfl, hs0, hz0, hzb0, rfl⟩] at hc
                exact hc
      · have hs0 : SeqAt' H a ts := .inr e1
        refine .inl ⟨_, rfl, a, rfl, ⟨_, SqL.of (s1 _ _ e1)⟩, fun D nD => ?_⟩
        refine lc_list (K := K) (a := a) (xs := ts) (fun j H4 => ∃ bs, Told (fun i => IsInts H (ts.getD i .non) S.n) j bs ∧ H4 D = some (.lst (bs.map V.bl)) ∧ Same H1 H4) ⟨[], .nil, upd_same, same_new nD⟩ (fun j H4 _ ⟨_, _, _, h4⟩ => SqL.of (h4 _ _ (s1 _ _ e1))) ?_ ?_
        · rintro j z H4 hj ⟨bs, q0, q1, q2⟩
          have hjl := (List.getElem?_eq_some_iff.mp hj).1
          have hzD := hD.item hs0 (List.mem_of_getElem? hj)
          have q2' := s1.trans q2
          obtain ⟨dx, mv, na, wv, q, kvs, hpp, _⟩ := SA.ex
          refine ⟨rfl, ?_⟩
          refine yesT ?_
          refine ⟨_, rfl, _, rfl, p, T.c_System, dx, _, _, rfl, q2' _ _ hpp, T.cl_System, T.na_System_posts, sfs_posts, z, A, S.n, rfl, hzD.same q2', by have := ok.n6; omega, fun b H5 s5 hb => ?_⟩
          refine ⟨_, s5 _ _ q1, ?_, bs ++ [b], q0.snoc ?_, ?_, same_upd (q2.trans s5) nD⟩
          · rw [List.length_map, q0.len]; exact small1000 (by omega)
          · rw [hb, List.getD_eq_getElem?_getD, hj]
            exact ⟨fun h => IsInts.back hzD q2' h, fun h => h.same q2'⟩
          · rw [upd_same, ← bl_snoc]
        · rintro H4 ⟨bs, q0, q1, q2⟩
          have s14 := s1.trans q2
          refine ⟨D, _, rfl, SqL.of q1, ?_⟩
          refine ⟨_, rfl, ?_⟩
          refine ite2 (fun g => ?_) (fun g => ?_)
          · refine k false _ s14 ⟨fun e => (nomatch e), fun ⟨hF, _⟩ => ?_⟩
            have := q0.all.mpr (hF.ints hs0).2
            rw [this] at g; cases g
          have hints := q0.all.mp (by cases hb : bs.all id with | true => rfl | false => rw [hb] at g; exact absurd rfl g)
          obtain ⟨hs, hp⟩ := paired_ints hints
          have hhl : hs.length = ts.length := (prd_len hp).symm
          obtain ⟨last, hlast⟩ : ∃ z, ts[ts.length - 1]? = some z := ⟨_, List.getElem?_eq_getElem (by omega)⟩
          obtain ⟨k0, hk0, hk1, hk2⟩ := prd_at1 hp hlast
          have hm1 : atI ts (-1) = some last := atI_neg1 hlast
          obtain ⟨lb, rfl, hlb⟩ := IntT.firm H H4 _ _ (same_tups s14) hk1
          obtain ⟨u0, us, rfl⟩ : ∃ u us, k0 = u :: us := by
            cases k0 with
            | nil => simp at hk2; omega
            | cons u us => exact ⟨u, us, rfl⟩
          have hlk : hs.getD rs.length [] = u0 :: us := by
            rw [List.getD_eq_getElem?_getD, show rs.length = ts.length - 1 by omega, hk0]; rfl
          refine ⟨_, rfl, _, rfl, ?_⟩
          refine SeqAt'.ix (K := K) (hs0.same s14) hm1 ?_
          refine ⟨lb, u0, us, rfl, SqT.of hlb, ?_⟩
          refine ⟨_, _, rfl, rfl, _, rfl, ?_⟩
          refine ite2 (fun g => ?_) (fun g => ?_)
          · refine k false _ s14 ⟨fun e => (nomatch e), fun ⟨hF, _⟩ => ?_⟩
            exfalso
            have hl0 := ((floorIs_of hs0 htl hp).mp hF).last
            rw [hlk] at hl0
            have hgt : 0 < us.foldl max u0 := of_decide_eq_true g
            have : us.foldl max u0 ≤ 0 := (foldl_max_le us u0 0).mpr ⟨by simpa using hl0 0 (by omega), fun x hx => by
              obtain ⟨i, hi⟩ := List.getElem?_of_mem hx
              have hil := (List.getElem?_eq_some_iff.mp hi).1
              have := hl0 (i + 1) (by rw [List.length_cons] at hk2; omega)
              rw [List.getD_eq_getElem?_getD, List.getElem?_cons_succ, hi] at this
              exact this⟩
            omega
          have hlast0 : ∀ a, a < S.n.toNat → (hs.getD rs.length []).getD a 0 ≤ 0 := by
            rw [hlk]
            have hle : us.foldl max u0 ≤ 0 := le_not fun h => absurd (decide_eq_true h) g
            have := (foldl_max_le us u0 0).mp hle
            intro a ha
            rw [List.getD_eq_getElem?_getD, List.getElem?_eq_getElem (by rw [List.length_cons] at hk2 ⊢; omega)]
            rcases List.mem_cons.mp (List.getElem_mem (by rw [List.length_cons] at hk2 ⊢; omega : a < (u0 :: us).length)) with e | e
            · show (u0 :: us)[a] ≤ 0
              rw [e]; exact this.1
            · exact this.2 _ e
          rcases hl with hl0 | hl0
          · refine .inr ⟨_, rfl, l, _, rfl, SqT.of (s14 _ _ hl0), ?_⟩
            refine for_it walk_enumT (fun i σ' H5 => Same H4 H5 ∧ (∀ kk row, kk < i → rs[kk]? = some row → ∀ a b q, a < S.n.toNat → b < S.n.toNat → row.getD b none = some q → (hs.getD kk []).getD a 0 ≤ mat S.ws a b + q + (hs.getD (kk + 1) []).getD b 0) ∧ ∃ o4 o5 o6 : Option V, σ' = [some (.ref p), some (.ref l), some (.int c), some (.ref a), o4, o5, o6, none, none, none]) ⟨Same.refl _, fun kk _ h => absurd h (Nat.not_lt_zero _), none, none, none, rfl⟩ (fun i σ' H5 _ h5 => SqT.of (h5.1 _ _ (s14 _ _ hl0))) ?_ ?_
            · rintro i x σ' H5 H6 hi ⟨s5, q5, o4, o5, o6, rfl⟩ ⟨tp, x', y', rfl, np, rfl, e3, ey⟩
              cases e3
              obtain ⟨z, hz, rfl⟩ := map_at ey
              have hzi := (List.getElem?_eq_some_iff.mp hz).1
              obtain ⟨row, hrow, hrm⟩ := prd_at1 hrs hz
              have s6 : Same H5 (upd H5 tp (.tup [.int (i : Nat), .str z])) := same_new np
              have s16 : Same H (upd H5 tp (.tup [.int (i : Nat), .str z])) := s14.trans (s5.trans s6)
              obtain ⟨zi, hzi1⟩ : ∃ y, ts[i]? = some y := ⟨_, List.getElem?_eq_getElem (by omega)⟩
              obtain ⟨zj, hzj1⟩ : ∃ y, ts[i + 1]? = some y := ⟨_, List.getElem?_eq_getElem (by omega)⟩
              obtain ⟨ki, hki, hki2, hki3⟩ := prd_at1 hp hzi1
              obtain ⟨kj, hkj, hkj2, hkj3⟩ := prd_at1 hp hzj1
              refine ⟨tp, _, rfl, SqT.of upd_same, rfl, _, _, rfl, _, _, rfl, rfl, ?_⟩
              refine ⟨_, rfl, _, rfl, _, rfl, _, rfl, _, _, rfl, rfl, ?_⟩
              refine SeqAt'.ix (K := K) (hs0.same s16) (atI_nat (j := i + 1) hzj1) ?_
              refine ⟨p, S, z, row, zj, kj, rfl, ok, SA.same s16, hrm, IntT.firm H _ _ _ (same_tups s16) hkj2, hkj3, fun most H7 s7 hmost => ?_⟩
              obtain ⟨mb, rfl, hmb⟩ := hmost
              have s17 := s16.trans s7
              obtain ⟨ib, rfl, hib⟩ := IntT.firm H H7 _ _ (same_tups s17) hki2
              refine ⟨_, rfl, _, rfl, ?_⟩
              refine SeqAt'.ix (K := K) (hs0.same s17) (atI_nat hzi1) ?_
              refine ⟨_, rfl, ib, mb, _, _, rfl, .inr ⟨SqT.of hib, SqT.of hmb, fun D2 nD2 => ?_⟩⟩
              have hcl : (ceil S.n.toNat S.ws row kj).length = S.n.toNat := ceil_len
              refine lc_it (walk_zipT (n := S.n.toNat) (by rw [List.length_map, List.length_map]; omega)) (fun j H8 => ∃ bs, Told (fun x => (ceil S.n.toNat S.ws row kj).getD x 0 < ki.getD x 0) j bs ∧ H8 D2 = some (.lst (bs.map V.bl)) ∧ Same H7 H8) ⟨[], .nil, upd_same, same_new nD2⟩ (fun j H8 _ ⟨_, _, _, h8⟩ => ⟨SqT.of (h8 _ _ hib), SqT.of (h8 _ _ hmb)⟩) ?_ ?_
              · rintro j x H8 H9 hj ⟨bs, f0, f1, f2⟩ ⟨tp2, x2, y2, rfl, np2, rfl, g3, g4⟩
                obtain ⟨u, hu1, rfl⟩ := map_at g3
                obtain ⟨u', hu2, rfl⟩ := map_at g4
                have s9 : Same H8 (upd H8 tp2 (.tup [.int u, .int u'])) := same_new np2
                refine ⟨tp2, _, rfl, SqT.of upd_same, rfl, _, _, rfl, _, _, rfl, rfl, rfl, ?_⟩
                refine yesT ?_
                refine ⟨_, rfl, _, rfl, _, _, rfl, rfl, ?_⟩
                refine ⟨_, s9 _ _ f1, ?_, bs ++ [decide (u' < u)], f0.snoc ?_, ?_, same_upd (f2.trans s9) nD2⟩
                · rw [List.length_map, f0.len]; exact small1000 (by omega)
                · rw [decide_eq_true_iff, List.getD_eq_getElem?_getD, List.getD_eq_getElem?_getD, hu1, hu2]
                  exact Iff.rfl
                · rw [upd_same, ← bl_snoc]
              · rintro H8 ⟨bs, f0, f1, f2⟩
                refine ⟨D2, _, rfl, SqL.of f1, ?_⟩
                have s18 := s17.trans f2
                have hci := ceil_iff (n := S.n.toNat) (ws := S.ws) (row := row) (ah := kj) (ks := ki) (fun a => chs_ne (ok.pr _ hrm).1)
                refine ⟨_, rfl, ?_⟩
                refine ite2 (fun g => ?_) (fun g => ?_)
                · obtain ⟨x, hx, hlt⟩ := f0.any.mp g
                  refine k false _ s18 ⟨fun e => (nomatch e), fun ⟨hF, _⟩ => ?_⟩
                  exfalso
                  have hst := ((floorIs_of hs0 htl hp).mp hF).step i row hrow
                  have hle := hci.mpr (fun a b q ha hb hq => by
                    have := hst a b q ha hb hq
                    rw [getD_at hki, getD_at hkj] at this
                    exact this) x hx
                  omega
                · refine ⟨(s5.trans s6).trans (s7.trans f2), fun kk row' hkk hrow' => ?_, _, _, _, rfl⟩
                  by_cases hki' : kk < i
                  · exact q5 kk row' hki' hrow'
                  · obtain rfl : kk = i := by omega
                    rw [hrow] at hrow'
                    cases hrow'
                    rw [getD_at hki, getD_at hkj]
                    refine hci.mp fun a ha => ?_
                    refine le_not fun h => ?_
                    exact absurd (f0.any.mpr ⟨a, ha, h⟩) g
            · rintro σ' H5 ⟨s5, q5, o4, o5, o6, rfl⟩
              obtain ⟨z0, hz0⟩ : ∃ y, ts[0]? = some y := ⟨_, List.getElem?_eq_getElem (by omega)⟩
              have s15 := s14.trans s5
              obtain ⟨kz, hkz, hkz2, hkz3⟩ := prd_at1 hp hz0
              obtain ⟨zb0, rfl, hzb0⟩ := hkz2
              have hzb := s15 _ _ hzb0
              refine ⟨_, rfl, ?_⟩
              refine SeqAt'.ix (K := K) (hs0.same s15) (atI_nat (j := 0) hz0) ?_
              refine ⟨zb0, _, (0 : Nat), .int (kz.getD 0 0), rfl, rfl, SqT.of hzb, atI_nat (by rw [List.getElem?_map, getDat 0 (by omega)]; rfl), ?_⟩
              refine ⟨_, rfl, _, _, rfl, rfl, ?_⟩
              have hFl : FlOk S.n.toNat S.ws rs hs := ⟨hlast0, fun kk row hrow => by
                refine q5 kk row ?_ hrow
                rw [List.length_map, hlen]
                exact (List.getElem?_eq_some_iff.mp hrow).1⟩
              refine k _ _ s15 ?_
              rw [decide_eq_true_iff]
              constructor
              · exact fun h => ⟨(floorIs_of hs0 htl hp).mpr hFl, _, ⟨a, ts, zb0, kz, rfl, hs0, hz0, hzb0, rfl⟩, h⟩
              · rintro ⟨_, x, hx, hc⟩
                rw [hx.fn ⟨a, ts, zb0, kz, rfl, hs0, hz0, hzb0, rfl⟩] at hc
                exact hc
          · refine .inl ⟨_, rfl, l, _, rfl, SqL.of (s14 _ _ hl0), ?_⟩
            refine for_it walk_enum (fun i σ' H5 => Same H4 H5 ∧ (∀ kk row, kk < i → rs[kk]? = some row → ∀ a b q, a < S.n.toNat → b < S.n.toNat → row.getD b none = some q → (hs.getD kk []).getD a 0 ≤ mat S.ws a b + q + (hs.getD (kk + 1) []).getD b 0) ∧ ∃ o4 o5 o6 : Option V, σ' = [some (.ref p), some (.ref l), some (.int c), some (.ref a), o4, o5, o6, none, none, none]) ⟨Same.refl _, fun kk _ h => absurd h (Nat.not_lt_zero _), none, none, none, rfl⟩ (fun i σ' H5 _ h5 => SqL.of (h5.1 _ _ (s14 _ _ hl0))) ?_ ?_
            · rintro i x σ' H5 H6 hi ⟨s5, q5, o4, o5, o6, rfl⟩ ⟨tp, x', y', rfl, np, rfl, e3, ey⟩
              cases e3
              obtain ⟨z, hz, rfl⟩ := map_at ey
              have hzi := (List.getElem?_eq_some_iff.mp hz).1
              obtain ⟨row, hrow, hrm⟩ := prd_at1 hrs hz
              have s6 : Same H5 (upd H5 tp (.tup [.int (i : Nat), .str z])) := same_new np
              have s16 : Same H (upd H5 tp (.tup [.int (i : Nat), .str z])) := s14.trans (s5.trans s6)
              obtain ⟨zi, hzi1⟩ : ∃ y, ts[i]? = some y := ⟨_, List.getElem?_eq_getElem (by omega)⟩
              obtain ⟨zj, hzj1⟩ : ∃ y, ts[i + 1]? = some y := ⟨_, List.getElem?_eq_getElem (by omega)⟩
              obtain ⟨ki, hki, hki2, hki3⟩ := prd_at1 hp hzi1
              obtain ⟨kj, hkj, hkj2, hkj3⟩ := prd_at1 hp hzj1
              refine ⟨tp, _, rfl, SqT.of upd_same, rfl, _, _, rfl, _, _, rfl, rfl, ?_⟩
              refine ⟨_, rfl, _, rfl, _, rfl, _, rfl, _, _, rfl, rfl, ?_⟩
              refine SeqAt'.ix (K := K) (hs0.same s16) (atI_nat (j := i + 1) hzj1) ?_
              refine ⟨p, S, z, row, zj, kj, rfl, ok, SA.same s16, hrm, IntT.firm H _ _ _ (same_tups s16) hkj2, hkj3, fun most H7 s7 hmost => ?_⟩
              obtain ⟨mb, rfl, hmb⟩ := hmost
              have s17 := s16.trans s7
              obtain ⟨ib, rfl, hib⟩ := IntT.firm H H7 _ _ (same_tups s17) hki2
              refine ⟨_, rfl, _, rfl, ?_⟩
              refine SeqAt'.ix (K := K) (hs0.same s17) (atI_nat hzi1) ?_
              refine ⟨_, rfl, ib, mb, _, _, rfl, .inr ⟨SqT.of hib, SqT.of hmb, fun D2 nD2 => ?_⟩⟩
              have hcl : (ceil S.n.toNat S.ws row kj).length = S.n.toNat := ceil_len
              refine lc_it (walk_zipT (n := S.n.toNat) (by rw [List.length_map, List.length_map]; omega)) (fun j H8 => ∃ bs, Told (fun x => (ceil S.n.toNat S.ws row kj).getD x 0 < ki.getD x 0) j bs ∧ H8 D2 = some (.lst (bs.map V.bl)) ∧ Same H7 H8) ⟨[], .nil, upd_same, same_new nD2⟩ (fun j H8 _ ⟨_, _, _, h8⟩ => ⟨SqT.of (h8 _ _ hib), SqT.of (h8 _ _ hmb)⟩) ?_ ?_
              · rintro j x H8 H9 hj ⟨bs, f0, f1, f2⟩ ⟨tp2, x2, y2, rfl, np2, rfl, g3, g4⟩
                obtain ⟨u, hu1, rfl⟩ := map_at g3
                obtain ⟨u', hu2, rfl⟩ := map_at g4
                have s9 : Same H8 (upd H8 tp2 (.tup [.int u, .int u'])) := same_new np2
                refine ⟨tp2, _, rfl, SqT.of upd_same, rfl, _, _, rfl, _, _, rfl, rfl, rfl, ?_⟩
                refine yesT ?_
                refine ⟨_, rfl, _, rfl, _, _, rfl, rfl, ?_⟩
                refine ⟨_, s9 _ _ f1, ?_, bs ++ [decide (u' < u)], f0.snoc ?_, ?_, same_upd (f2.trans s9) nD2⟩
                · rw [List.length_map, f0.len]; exact small1000 (by omega)
                · rw [decide_eq_true_iff, List.getD_eq_getElem?_getD, List.getD_eq_getElem?_getD, hu1, hu2]
                  exact Iff.rfl
                · rw [upd_same, ← bl_snoc]
              · rintro H8 ⟨bs, f0, f1, f2⟩
                refine ⟨D2, _, rfl, SqL.of f1, ?_⟩
                have s18 := s17.trans f2
                have hci := ceil_iff (n := S.n.toNat) (ws := S.ws) (row := row) (ah := kj) (ks := ki) (fun a => chs_ne (ok.pr _ hrm).1)
                refine ⟨_, rfl, ?_⟩
                refine ite2 (fun g => ?_) (fun g => ?_)
                · obtain ⟨x, hx, hlt⟩ := f0.any.mp g
                  refine k false _ s18 ⟨fun e => (nomatch e), fun ⟨hF, _⟩ => ?_⟩
                  exfalso
                  have hst := ((floorIs_of hs0 htl hp).mp hF).step i row hrow
                  have hle := hci.mpr (fun a b q ha hb hq => by
                    have := hst a b q ha hb hq
                    rw [getD_at hki, getD_at hkj] at this
                    exact this) x hx
                  omega
                · refine ⟨(s5.trans s6).trans (s7.trans f2), fun kk row' hkk hrow' => ?_, _, _, _, rfl⟩
                  by_cases hki' : kk < i
                  · exact q5 kk row' hki' hrow'
                  · obtain rfl : kk = i := by omega
                    rw [hrow] at hrow'
                    cases hrow'
                    rw [getD_at hki, getD_at hkj]
                    refine hci.mp fun a ha => ?_
                    refine le_not fun h => ?_
                    exact absurd (f0.any.mpr ⟨a, ha, h⟩) g
            · rintro σ' H5 ⟨s5, q5, o4, o5, o6, rfl⟩
              obtain ⟨z0, hz0⟩ : ∃ y, ts[0]? = some y := ⟨_, List.getElem?_eq_getElem (by omega)⟩
              have s15 := s14.trans s5
              obtain ⟨kz, hkz, hkz2, hkz3⟩ := prd_at1 hp hz0
              obtain ⟨zb0, rfl, hzb0⟩ := hkz2
              have hzb := s15 _ _ hzb0
              refine ⟨_, rfl, ?_⟩
              refine SeqAt'.ix (K := K) (hs0.same s15) (atI_nat (j := 0) hz0) ?_
              refine ⟨zb0, _, (0 : Nat), .int (kz.getD 0 0), rfl, rfl, SqT.of hzb, atI_nat (by rw [List.getElem?_map, getDat 0 (by omega)]; rfl), ?_⟩
              refine ⟨_, rfl, _, _, rfl, rfl, ?_⟩
              have hFl : FlOk S.n.toNat S.ws rs hs := ⟨hlast0, fun kk row hrow => by
                refine q5 kk row ?_ hrow
                rw [List.length_map, hlen]
                exact (List.getElem?_eq_some_iff.mp hrow).1⟩
              refine k _ _ s15 ?_
              rw [decide_eq_true_iff]
              constructor
              · exact fun h => ⟨(floorIs_of hs0 htl hp).mpr hFl, _, ⟨a, ts, zb0, kz, rfl, hs0, hz0, hzb0, rfl⟩, h⟩
              · rintro ⟨_, x, hx, hc⟩
                rw [hx.fn ⟨a, ts, zb0, kz, rfl, hs0, hz0, hzb0, rfl⟩] at hc
                exact hc
end
end Toy

namespace Toy
open PySem PySem.Spec PyProof.Rows L2
local macro_rules | `(tactic| walk_at "hp") => `(tactic| first
  | assumption
  | exact upd_same
  | (refine Eq.trans (upd_ne (by first | assumption | (apply Ne.symm; assumption))) ?_; walk_at "hp"))
local macro_rules | `(tactic| walk_at "side") => `(tactic| first
  | exact .inl ⟨by omega, by omega⟩
  | exact .inr ⟨by omega, by omega⟩
  | exact ⟨by omega, by omega⟩
  | (show _ ≤ _; omega)
  | (show (_ : Int) < _; omega)
  | decide
  | assumption)
local macro_rules | `(tactic| walk_at "r") => `(tactic| first
  | refine ⟨_, rfl, ?_⟩
  | refine ⟨_, _, rfl, rfl, ?_⟩
  | refine ⟨_, _, _, _, rfl, rfl, SqL.of (by walk_at "hp"), rfl, ?_⟩
  | refine ⟨_, _, _, _, rfl, rfl, SqT.of (by walk_at "hp"), rfl, ?_⟩
  | refine ⟨_, _, _, _, rfl, rfl, (by walk_at "hp"), rfl, ?_⟩
  | refine And.intro rfl ?_
  | refine ⟨_, _, rfl, SqT.of (by walk_at "hp"), ?_⟩
  | refine ⟨_, _, rfl, SqL.of (by walk_at "hp"), ?_⟩
  | refine .inl ⟨_, rfl, ?_⟩
  | refine ⟨_, _, rfl, .inl (SqL.of (by walk_at "hp")), ?_⟩
  | refine ⟨_, _, rfl, .inr (SqT.of (by walk_at "hp")), ?_⟩
  | refine ⟨_, _, rfl, .inl ⟨SqL.of (by walk_at "hp"), ?_⟩⟩
  | refine And.intro (.inl ⟨rfl, _, SqL.of (by walk_at "hp")⟩) ?_
  | refine ⟨_, _, _, rfl, rfl, (by walk_at "hp"), ?_⟩
  | refine ⟨_, _, rfl, (by walk_at "hp"), ?_⟩
  | refine And.intro (by walk_at "side") ?_)
local macro_rules | `(tactic| walk_at "rr") => `(tactic| (repeat walk_at "r"))
local macro_rules | `(tactic| walk_at "k") => `(tactic| first
  | refine ite2 (fun _ => ?_) (fun g => absurd rfl g)
  | refine ite2 (fun g => absurd g (by decide)) (fun _ => ?_)
  | refine ite2 (fun _ => ?_) (fun g => absurd (decide_eq_true (by omega)) g)
  | refine ite2 (fun g => absurd (of_decide_eq_true g) (by omega)) (fun _ => ?_)
  | refine ite2 (fun g => (nd_t g (by omega)).elim) (fun _ => ?_)
  | refine ite2 (fun _ => ?_) (fun g => absurd (nd_f g) (by omega)))
local macro_rules | `(tactic| walk_at "rk") => `(tactic| (repeat (first | walk_at "r" | walk_at "k")))
def spLawRightG : Sp := fun vs H Q _ => ∃ (L d l : Addr) (M : Nat → Nat → Int) (n : Int) (rs0 : List (Str × List (Option Int))) (zs : List Str) (rs : List (List (Option Int))) (ws : List (List Int)) (v : V) (A : Addr → Prop), vs = [.ref L, .ref d, .ref l, v] ∧ LM H L n.toNat M ∧ 1 ≤ n ∧ n ≤ 6 ∧
  (∀ i j, i < n.toNat → j < n.toNat → M i j = mat ws i j) ∧ ReqAt H d n rs0 ∧ H l = some (.lst (zs.map V.str)) ∧ Paired (fun z r => (z, r) ∈ rs0) zs rs ∧ zs.length ≤ 900 ∧ Dat A H v ∧
  ∀ b H', Same H H' → (b = true ↔ FloorIs n ws rs H v) → Q (.bl b) H'
section
variable {P : Program} {w : World} {K : PySem.W.Frag} {mg : Str → Option Value} {base : Heap}
theorem ok__law_right_floor (T : Top K mg) : Ok P w K mg base 2 "_law_right_floor" ["ways", "requests", "row", "thing"] spLawRightG := by
  refine ok_of T.d__law_right_floor sc__law_right_floor (fun vs H Q E h => ?_) (fun f cdv A outer s H vs Q E hr h => ?_)
  · obtain ⟨L, d, l, M, n, rs0, zs, rs, ws, v, A, rfl, _⟩ := h
    rfl
  · obtain ⟨L, d, l, M, n, rs0, zs, rs, ws, v, A, rfl, hM, n1, n6, eM, hR, hl, hrs, hz, hD, k⟩ := h
    obtain ⟨f__law_is_integer, fd__law_is_integer, m__law_is_integer, k__law_is_integer, b__law_is_integer, G__law_is_integer⟩ := ok__law_is_integer (P := P) (w := w) (base := base) T
    have hr__law_is_integer : Room 1 _ := hr.mono (by decide)
    have hu := hu_of hr
    have hlen := prd_len hrs
    have hn0 : 0 < n.toNat := by omega
    obtain ⟨was, w1, w2, w3⟩ := hM.ex
    obtain ⟨nv, hn⟩ := hD.ty
    refine ⟨_, (pss_cons (ps_set (i := 4) sc__law_right_floor.nd rfl (Or.inl rfl) (pe_callB (id := "len") call_len_seq (by rfl) T.b_len (by decide +kernel) (pa_cons (pv 0) pa_nil)))
      (pss_cons (ps_if (PW.pt (pw_or (pt_not (pt_val (pe_callB (id := "isinstance") (call_isN2 (T := "list") (U := "tuple")) (by rfl) T.b_isinstance (by decide +kernel) (pa_cons (pv 3) (pa_cons (pe_tup (pa_cons (pe_bltn (v := .ty "list") (u := .type "list") (by rfl) T.b_list (by decide +kernel) rfl) (pa_cons (pe_bltn (v := .ty "tuple") (u := .type "tuple") (by rfl) T.b_tuple (by decide +kernel) rfl) pa_nil))) pa_nil))))) (pw_or1 (pt_cmpR op_ne (pe_callB (id := "len") call_len_seq (by rfl) T.b_len (by decide +kernel) (pa_cons (pv 3) pa_nil)) (pe_op op_add (pe_callB (id := "len") call_len_seq (by rfl) T.b_len (by decide +kernel) (pa_cons (pv 2) pa_nil)) pe_int) (nomark _)))))
      (pss_one (ps_ret pe_bl))
      pss_nil)
      (pss_cons (ps_for PassesOwn.never rfl (pi_or (pi_list (pv 3)) (pi_tup (pv 3))) (pg_name (i := 5) sc__law_right_floor.nd rfl (Or.inl rfl))
      (pss_cons (ps_if (PW.pt (pw_or (pt_not (pt_val (pe_callB (id := "isinstance") (call_isN (T := "tuple")) (by rfl) T.b_isinstance (by decide +kernel) (pa_cons (pv 5) (pa_cons (pe_bltn (v := .ty "tuple") (u := .type "tuple") (by rfl) T.b_tuple (by decide +kernel) rfl) pa_nil))))) (pw_or1 (pt_cmpR op_ne (pe_callB (id := "len") call_len_seq (by rfl) T.b_len (by decide +kernel) (pa_cons (pv 5) pa_nil)) (pv 4) (nomark _)))))
      (pss_one (ps_ret pe_bl))
      pss_nil)
      (pss_one (ps_for PassesOwn.never rfl (pi_tup (pv 5)) (pg_name (i := 6) sc__law_right_floor.nd rfl (Or.inl rfl))
      (pss_one (ps_if (pt_not (pt_val (pe_call G__law_is_integer hr__law_is_integer rfl m__law_is_integer k__law_is_integer b__law_is_integer .nil pass0 (pa_cons (pv 6) pa_nil))))
      (pss_one (ps_ret pe_bl))
      pss_nil))))))
      (pss_cons (ps_for PassesOwn.never rfl (pi_range1 (by rfl) T.b_range (pa_cons (pv 4) pa_nil)) (pg_name (i := 7) sc__law_right_floor.nd rfl (Or.inl rfl))
      (pss_one (ps_if (pt_cmpR op_gt (pe_ix ix_tup (pe_ix (ix_list.or ix_tup) (pv 3) (pe_un un_neg pe_int) (fun _ _ => rfl)) (pv 7) (fun _ _ => rfl)) pe_int (nomark _))
      (pss_one (ps_ret pe_bl))
      pss_nil)))
      (pss_cons (ps_for PassesOwn.never rfl (pi_range1 (by rfl) T.b_range (pa_cons (pe_callB (id := "len") call_len_seq (by rfl) T.b_len (by decide +kernel) (pa_cons (pv 2) pa_nil)) pa_nil)) (pg_name (i := 8) sc__law_right_floor.nd rfl (Or.inl rfl))
      (pss_cons (ps_set (i := 9) sc__law_right_floor.nd rfl (Or.inl rfl) (pe_dget hu (pv 1) (pe_ix ix_list (pv 2) (pv 8) (fun _ _ => rfl)) (fun _ _ => rfl)))
      (pss_cons (ps_set (i := 10) sc__law_right_floor.nd rfl (Or.inl rfl) (pe_ix (ix_list.or ix_tup) (pv 3) (pe_op op_add (pv 8) pe_int) (fun _ _ => rfl)))
      (pss_one (ps_for PassesOwn.never rfl (pi_range1 (by rfl) T.b_range (pa_cons (pv 4) pa_nil)) (pg_name (i := 11) sc__law_right_floor.nd rfl (Or.inl rfl))
      (pss_one (ps_for PassesOwn.never rfl (pi_range1 (by rfl) T.b_range (pa_cons (pv 4) pa_nil)) (pg_name (i := 12) sc__law_right_floor.nd rfl (Or.inl rfl))
      (pss_one (ps_if (PW.pt (pw_and (pt_cmpR op_notN (pe_ix ix_tup (pv 9) (pv 12) (fun _ _ => rfl)) pe_non (nomark _)) (pw_and1 (pt_cmpR op_gt (pe_ix ix_tup (pe_ix (ix_list.or ix_tup) (pv 3) (pv 8) (fun _ _ => rfl)) (pv 11) (fun _ _ => rfl)) (pe_op op_add (pe_op op_add (pe_ix ix_list (pe_ix ix_list (pv 0) (pv 11) (fun _ _ => rfl)) (pv 12) (fun _ _ => rfl)) (pe_ix ix_tup (pv 9) (pv 12) (fun _ _ => rfl))) (pe_ix ix_tup (pv 10) (pv 12) (fun _ _ => rfl))) (nomark _)))))
      (pss_one (ps_ret pe_bl))
      pss_nil)))))))))
      (pss_one (ps_ret pe_bl))))))), ?_⟩
    refine ⟨_, rfl, L, _, rfl, .inl (SqL.of w1), ?_⟩
    refine ⟨_, rfl, (by show 2 ≤ sizeLine; decide), fun p hp' => ?_⟩
    have hn' := tyN_keep (same_new (o := .tup [.ty "list", .ty "tuple"]) hp') hn
    have s1 : Same H (upd H p (.tup [.ty "list", .ty "tuple"])) := same_new hp'
    have hb : (nv == "list" || nv == "bool" && "list" == "int" || (nv == "tuple" || nv == "bool" && "tuple" == "int")) = (nv == "list" || nv == "tuple") := by simp
    refine ⟨_, p, nv, nv == "list" || nv == "tuple", rfl, upd_same, hn', (by rintro rfl; rfl), (by rintro rfl; rfl), ⟨_, _, kit7 hn (by simp), kit7 hn (by simp), hb.symm⟩, ?_⟩
    refine ⟨_, rfl, ?_⟩
    cases hn2 : (nv == "list" || nv == "tuple") with
    | false =>
      walk_at "k"
      refine k false _ s1 ⟨fun e => (nomatch e), fun ⟨a, ts, hs, e, h1, _⟩ => ?_⟩
      subst e
      obtain ⟨n', hn', hn3⟩ := h1.ty
      rw [hn] at hn'
      cases hn'
      rw [hn2] at hn3; cases hn3
    | true =>
      obtain ⟨F, ts, rfl, hs0⟩ := tyN_seq hn hn2
      walk_at "k"
      have hl1 := s1 _ _ hl
      refine ⟨_, rfl, F, _, rfl, (hs0.same s1).len, ?_⟩
      refine ⟨_, rfl, l, _, rfl, .inl (SqL.of hl1), _, _, rfl, rfl, rfl, _, rfl, ?_⟩
      refine ite2 (fun g => ?_) (fun g => ?_)
      · refine k false _ s1 ⟨fun e => (nomatch e), fun hF => ?_⟩
        have := (hF.ints hs0).1
        exact absurd (by rw [List.length_map]; congr 1; omega) (ne_ne g)
      have htl : ts.length = rs.length + 1 := by
        have := ne_yes g
        rw [List.length_map] at this
        have : (ts.length : Int) = (zs.length : Int) + 1 := by injection this
        omega
      generalize hH1 : upd H p (.tup [.ty "list", .ty "tuple"]) = H1 at *
      rcases hs0 with e1 | e1
      · have hs0 : SeqAt' H F ts := .inl e1
        refine .inr ⟨_, rfl, F, rfl, ⟨_, SqT.of (s1 _ _ e1)⟩, ?_⟩
        refine for_tup (K := K) (a := F) (xs := ts) (fun i σ' H2 => H2 = H1 ∧ (∀ j, j < i → IsInts H (ts.getD j .non) n) ∧ ∃ o5 o6 : Option V, σ' = [some (.ref L), some (.ref d), some (.ref l), some (.ref F), some (.int (was.map V.ref).length), o5, o6, none, none, none, none, none, none]) ⟨rfl, fun x hx => absurd hx (Nat.not_lt_zero _), none, none, rfl⟩ (fun i σ' H2 _ h2 => SqT.of (by rw [h2.1]; exact s1 _ _ e1)) ?_ ?_
        · rintro i z σ' H2 hi ⟨rfl, q2, o5, o6, rfl⟩
          obtain ⟨nz, hnz⟩ := (hD.item hs0 (List.mem_of_getElem? hi)).ty
          have hnz2 := tyN_keep s1 hnz
          have hil := (List.getElem?_eq_some_iff.mp hi).1
          have hno : ∀ {b : Bool}, ¬ IsInts H z n → (false = true ↔ FloorIs n ws rs H (.ref F)) := fun {b} hh => ⟨fun e => (nomatch e), fun hF => by
            have := (hF.ints hs0).2 i hil
            rw [getD_at hi] at this
            exact absurd this hh⟩
          refine ⟨_, rfl, _, nz, _, rfl, hnz2, kit7 hnz2 (T := "tuple") (by simp), _, rfl, ?_⟩
          refine ite2 (fun g => ?_) (fun g => ?_)
          · refine k false _ s1 (hno (b := true) ?_)
            rintro ⟨ks, ⟨a, rfl, ha⟩, hl⟩
            rw [ty_tup ha] at hnz
            cases hnz
            exact absurd g (by decide)
          have hnt : nz = "tuple" := by
            by_cases e : nz = "tuple"
            · exact e
            · have e' : (nz == "tuple") = false := by simp [e]
              rw [e'] at g
              simp at g
          subst hnt
          obtain ⟨b, xs, rfl, hb⟩ := tyN_tup hnz
          have hb1 := s1 _ _ hb
          refine ⟨_, rfl, b, _, rfl, .inr (SqT.of hb1), _, rfl, rfl, _, rfl, ?_⟩
          refine ite2 (fun g => ?_) (fun g => ?_)
          · refine k false _ s1 (hno (b := true) ?_)
            intro hh
            have := ((isInts_of rfl hb).mp hh).1
            exact absurd (by rw [List.length_map]; congr 1; omega) (ne_ne g)
          have hxl : (xs.length : Int) = n := by
            have := ne_yes g
            rw [List.length_map] at this
            have : (xs.length : Int) = (was.length : Int) := by injection this
            omega
          refine ⟨_, rfl, b, rfl, ⟨_, SqT.of hb1⟩, ?_⟩
          refine for_tup (K := K) (a := b) (xs := xs) (fun j σ' H3 => H3 = H2 ∧ (∀ x, x < j → isI (xs.getD x .non) = true) ∧ ∃ o6 : Option V, σ' = [some (.ref L), some (.ref d), some (.ref l), some (.ref F), some (.int (was.map V.ref).length), some (.ref b), o6, none, none, none, none, none, none]) ⟨rfl, fun x hx => absurd hx (Nat.not_lt_zero _), o6, rfl⟩ (fun j σ' H3 _ h3 => SqT.of (by rw [h3.1]; exact hb1)) ?_ ?_
          · rintro j y σ' H3 hj ⟨rfl, q3, o6, rfl⟩
            obtain ⟨ny, hny⟩ := ((hD.item hs0 (List.mem_of_getElem? hi)).item (.inl hb) (List.mem_of_getElem? hj)).ty
            refine ⟨_, rfl, _, ny, rfl, tyN_keep s1 hny, _, rfl, ?_⟩
            refine ite2 (fun g => ?_) (fun g => ?_)
            · refine k false _ s1 (hno (b := true) ?_)
              intro hh
              have := ((isInts_of rfl hb).mp hh).2 j (List.getElem?_eq_some_iff.mp hj).1
              rw [getD_at hj] at this
              rw [this] at g; cases g
            · refine ⟨rfl, fun x hx => ?_, _, rfl⟩
              by_cases e : x < j
              · exact q3 x e
              · obtain rfl : x = j := by omega
                rw [getD_at hj]
                cases e : isI y with
                | true => rfl
                | false => rw [e] at g; exact absurd rfl g
          · rintro σ' H3 ⟨rfl, q3, o6, rfl⟩
            refine ⟨rfl, fun j hj => ?_, _, _, rfl⟩
            by_cases e : j < i
            · exact q2 j e
            · obtain rfl : j = i := by omega
              rw [getD_at hi]
              exact (isInts_of rfl hb).mpr ⟨hxl, q3⟩
        · rintro σ' H2 ⟨rfl, q2, o5, o6, rfl⟩
          obtain ⟨hs, hp⟩ := paired_ints q2
          have hhl : hs.length = ts.length := (prd_len hp).symm
          obtain ⟨last, hlast⟩ : ∃ z, ts[ts.length - 1]? = some z := ⟨_, List.getElem?_eq_getElem (by omega)⟩
          obtain ⟨k0, hk0, hk1, hk2⟩ := prd_at1 hp hlast
          obtain ⟨lb, rfl, hlb⟩ := hk1
          have hlb1 := s1 _ _ hlb
          have hm1 : atI ts (-1) = some (.ref lb) := atI_neg1 hlast
          have hlk : hs.getD rs.length [] = k0 := getD_at (by rw [show rs.length = ts.length - 1 by omega]; exact hk0)
          refine ⟨_, rfl, _, rfl, by rw [List.length_map]; omega, by rw [List.length_map]; omega, ?_⟩
          refine for_range (lo := 0) (n := ((was.map V.ref).length : Int).toNat) (fun i σ' H3 => H3 = H2 ∧ (∀ a, a < i → k0.getD a 0 ≤ 0) ∧ ∃ o7 : Option V, σ' = [some (.ref L), some (.ref d), some (.ref l), some (.ref F), some (.int (was.map V.ref).length), o5, o6, o7, none, none, none, none, none]) ⟨rfl, fun x hx => absurd hx (Nat.not_lt_zero _), none, rfl⟩ ?_ ?_
          · rintro i σ' H3 hi ⟨rfl, q3, o7, rfl⟩
            have hi' : i < n.toNat := by rw [List.length_map] at hi; omega
            rw [Int.zero_add]
            refine ⟨_, rfl, _, rfl, ?_⟩
            refine SeqAt'.ix (K := K) (hs0.same s1) hm1 ?_
            refine ⟨_, rfl, lb, _, (i : Nat), .int (k0.getD i 0), rfl, rfl, SqT.of hlb1, atI_nat (by rw [List.getElem?_map, getDat 0 (by omega)]; rfl), ?_⟩
            refine ⟨_, _, rfl, rfl, _, rfl, ?_⟩
            refine ite2 (fun g => ?_) (fun g => ?_)
            · refine k false _ s1 ⟨fun e => (nomatch e), fun hF => ?_⟩
              have := ((floorIs_of hs0 htl hp).mp hF).last i hi'
              rw [hlk] at this
              have := of_decide_eq_true g
              omega
            · refine ⟨rfl, fun a ha => ?_, _, rfl⟩
              by_cases e : a < i
              · exact q3 a e
              · obtain rfl : a = i := by omega
                exact le_not fun h => absurd (decide_eq_true h) g
          · rintro σ' H3 ⟨rfl, q3, o7, rfl⟩
            have hR1 := hR.same s1
            have hM1 := hM.same s1
            refine ⟨_, rfl, l, _, rfl, .inl (SqL.of hl1), _, rfl, by rw [List.length_map]; omega, by rw [List.length_map]; omega, ?_⟩
            refine for_range (lo := 0) (n := ((zs.map V.str).length : Int).toNat) (fun i σ' H4 => H4 = H3 ∧ (∀ kk row, kk < i → rs[kk]? = some row → ∀ a b q, a < n.toNat → b < n.toNat → row.getD b none = some q → (hs.getD kk []).getD a 0 ≤ mat ws a b + q + (hs.getD (kk + 1) []).getD b 0) ∧ ∃ o8 o9 o10 o11 o12 : Option V, σ' = [some (.ref L), some (.ref d), some (.ref l), some (.ref F), some (.int (was.map V.ref).length), o5, o6, o7, o8, o9, o10, o11, o12]) ⟨rfl, fun kk _ h => absurd h (Nat.not_lt_zero _), none, none, none, none, none, rfl⟩ ?_ ?_
            · rintro i σ' H4 hi ⟨rfl, q4, o8, o9, o10, o11, o12, rfl⟩
              have hi' : i < zs.length := by rw [List.length_map] at hi; omega
              obtain ⟨z, hz'⟩ : ∃ z, zs[i]? = some z := ⟨_, List.getElem?_eq_getElem hi'⟩
              obtain ⟨row, hrow, hm⟩ := prd_at1 hrs hz'
              obtain ⟨pa, hg, hpa⟩ := hR1.get hm
              have hpr := hR.pr _ hm
              have hrl : (row.length : Int) = n := hpr.len
              obtain ⟨zi, hzi1⟩ : ∃ y, ts[i]? = some y := ⟨_, List.getElem?_eq_getElem (by omega)⟩
              obtain ⟨zj, hzj1⟩ : ∃ y, ts[i + 1]? = some y := ⟨_, List.getElem?_eq_getElem (by omega)⟩
              obtain ⟨ki, hki, hki2, hki3⟩ := prd_at1 hp hzi1
              obtain ⟨kj, hkj, hkj2, hkj3⟩ := prd_at1 hp hzj1
              obtain ⟨bi, rfl, hbi⟩ := hki2
              obtain ⟨bj, rfl, hbj⟩ := hkj2
              have hbi1 := s1 _ _ hbi
              have hbj1 := s1 _ _ hbj
              have hzs : (zs.map V.str)[i]? = some (.str z) := by rw [List.getElem?_map, hz']; rfl
              have hyes : ∀ {b : Bool}, (∃ a b q, a < n.toNat ∧ b < n.toNat ∧ row.getD b none = some q ∧ mat ws a b + q + kj.getD b 0 < ki.getD a 0) → (false = true ↔ FloorIs n ws rs H (.ref F)) := fun {_} ⟨a, b, q, ha, hb, hq, hlt⟩ => ⟨fun e => (nomatch e), fun hF => by
                have := ((floorIs_of hs0 htl hp).mp hF).step i row hrow a b q ha hb hq
                rw [getD_at hki, getD_at hkj] at this
                omega⟩
              rw [Int.zero_add]
              refine ⟨_, rfl, _, rfl, _, rfl, l, _, (i : Nat), .str z, rfl, rfl, SqL.of hl1, atI_nat hzs, d, .ref pa, rfl, hg, ?_⟩
              refine ⟨_, rfl, _, rfl, _, _, rfl, rfl, ?_⟩
              refine SeqAt'.ix (K := K) (hs0.same s1) (atI_nat (j := i + 1) hzj1) ?_
              refine ⟨_, rfl, _, rfl, by rw [List.length_map]; omega, by rw [List.length_map]; omega, ?_⟩
              refine for_range (lo := 0) (n := ((was.map V.ref).length : Int).toNat) (fun aa σ' H5 => H5 = H4 ∧ (∀ a b q, a < aa → b < n.toNat → row.getD b none = some q → ki.getD a 0 ≤ mat ws a b + q + kj.getD b 0) ∧ ∃ o11 o12 : Option V, σ' = [some (.ref L), some (.ref d), some (.ref l), some (.ref F), some (.int (was.map V.ref).length), o5, o6, o7, some (.int (i : Nat)), some (.ref pa), some (.ref bj), o11, o12]) ⟨rfl, fun a _ _ h => absurd h (Nat.not_lt_zero _), o11, o12, rfl⟩ ?_ ?_
              · rintro aa σ' H5 haa ⟨rfl, q5, o11, o12, rfl⟩
                have haa' : aa < n.toNat := by rw [List.length_map] at haa; omega
                obtain ⟨wa, hwa⟩ : ∃ b, was[aa]? = some b := ⟨_, List.getElem?_eq_getElem (by omega)⟩
                have hwar := s1 _ _ (w3 aa wa hwa)
                have w11 := s1 _ _ w1
                rw [Int.zero_add]
                refine ⟨_, rfl, _, rfl, by rw [List.length_map]; omega, by rw [List.length_map]; omega, ?_⟩
                refine for_range (lo := 0) (n := ((was.map V.ref).length : Int).toNat) (fun bb σ' H6 => H6 = H5 ∧ (∀ b q, b < bb → row.getD b none = some q → ki.getD aa 0 ≤ mat ws aa b + q + kj.getD b 0) ∧ ∃ o12 : Option V, σ' = [some (.ref L), some (.ref d), some (.ref l), some (.ref F), some (.int (was.map V.ref).length), o5, o6, o7, some (.int (i : Nat)), some (.ref pa), some (.ref bj), some (.int (aa : Nat)), o12]) ⟨rfl, fun b _ h => absurd h (Nat.not_lt_zero _), o12, rfl⟩ ?_ ?_
                · rintro bb σ' H6 hbb ⟨rfl, q6, o12, rfl⟩
                  have hbb' : bb < n.toNat := by rw [List.length_map] at hbb; omega
                  have r1 : (row.map vO)[bb]? = some (vO (row.getD bb none)) := by rw [List.getElem?_map, getDat none (by omega)]; rfl
                  rw [Int.zero_add]
                  refine ⟨_, rfl, _, rfl, pa, _, (bb : Nat), _, rfl, rfl, SqT.of hpa, atI_nat r1, rfl, _, rfl, ?_⟩
                  cases hc : row.getD bb none with
                  | none =>
                    refine ite2 (fun g => absurd g (by decide)) (fun _ => ?_)
                    refine ite2 (fun g => nomatch g) (fun _ => ?_)
                    refine ⟨rfl, fun b q hb hq => ?_, _, rfl⟩
                    by_cases e : b < bb
                    · exact q6 b q e hq
                    · obtain rfl : b = bb := by omega
                      rw [hc] at hq; cases hq
                  | some k' =>
                    refine ite2 (fun _ => ?_) (fun g => absurd (by rfl) g)
                    have r1' : (row.map vO)[bb]? = some (.int k') := by rw [r1, hc]; rfl
                    have hva : (ki.map V.int)[aa]? = some (.int (ki.getD aa 0)) := by rw [List.getElem?_map, getDat 0 (by omega)]; rfl
                    have hvb : (kj.map V.int)[bb]? = some (.int (kj.getD bb 0)) := by rw [List.getElem?_map, getDat 0 (by omega)]; rfl
                    have hme := eM aa bb haa' hbb'
                    refine ⟨_, rfl, _, rfl, ?_⟩
                    refine SeqAt'.ix (K := K) (hs0.same s1) (atI_nat hzi1) ?_
                    refine ⟨_, rfl, bi, _, (aa : Nat), _, rfl, rfl, SqT.of hbi1, atI_nat hva, ?_⟩
                    refine ⟨_, rfl, _, rfl, L, _, (aa : Nat), .ref wa, rfl, rfl, SqL.of w11, atI_nat (by rw [List.getElem?_map, hwa]; rfl), _, rfl, wa, _, (bb : Nat), _, rfl, rfl, SqL.of hwar, atI_nat (rowV_at hbb'), ?_⟩
                    refine ⟨_, rfl, _, rfl, pa, _, (bb : Nat), .int k', rfl, rfl, SqT.of hpa, atI_nat r1', _, _, rfl, rfl, ?_⟩
                    refine ⟨_, rfl, _, rfl, bj, _, (bb : Nat), _, rfl, rfl, SqT.of hbj1, atI_nat hvb, _, _, rfl, rfl, ?_⟩
                    refine ⟨_, _, rfl, rfl, _, rfl, ?_⟩
                    refine ite2 (fun g => ?_) (fun g => ?_)
                    · refine k false _ s1 (hyes (b := true) ⟨aa, bb, k', haa', hbb', hc, ?_⟩)
                      have := of_decide_eq_true g
                      omega
                    · refine ⟨rfl, fun b q hb hq => ?_, _, rfl⟩
                      by_cases e : b < bb
                      · exact q6 b q e hq
                      · obtain rfl : b = bb := by omega
                        rw [hc] at hq
                        cases hq
                        rw [← hme]
                        exact le_not fun h => absurd (decide_eq_true h) g
                · rintro σ' H6 ⟨rfl, q6, o12, rfl⟩
                  refine ⟨rfl, fun a b q ha hb hq => ?_, _, _, rfl⟩
                  by_cases e : a < aa
                  · exact q5 a b q e hb hq
                  · obtain rfl : a = aa := by omega
                    exact q6 b q (by rw [List.length_map]; omega) hq
              · rintro σ' H5 ⟨rfl, q5, o11, o12, rfl⟩
                refine ⟨rfl, fun kk row' hkk hrow' => ?_, _, _, _, _, _, rfl⟩
                by_cases e : kk < i
                · exact q4 kk row' e hrow'
                · obtain rfl : kk = i := by omega
                  rw [hrow] at hrow'
                  cases hrow'
                  rw [getD_at hki, getD_at hkj]
                  exact fun a b q ha hb hq => q5 a b q (by rw [List.length_map]; omega) hb hq
            · rintro σ' H4 ⟨rfl, q4, o8, o9, o10, o11, o12, rfl⟩
              refine k true _ s1 ⟨fun _ => (floorIs_of hs0 htl hp).mpr ⟨fun a ha => ?_, fun kk row hrow => ?_⟩, fun _ => rfl⟩
              · rw [hlk]; exact q3 a (by rw [List.length_map]; omega)
              · have := (List.getElem?_eq_some_iff.mp hrow).1
                exact q4 kk row (by rw [List.length_map]; omega) hrow
      · have hs0 : SeqAt' H F ts := .inr e1
        refine .inl ⟨_, rfl, F, rfl, ⟨_, SqL.of (s1 _ _ e1)⟩, ?_⟩
        refine for_list (K := K) (a := F) (xs := ts) (fun i σ' H2 => H2 = H1 ∧ (∀ j, j < i → IsInts H (ts.getD j .non) n) ∧ ∃ o5 o6 : Option V, σ' = [some (.ref L), some (.ref d), some (.ref l), some (.ref F), some (.int (was.map V.ref).length), o5, o6, none, none, none, none, none, none]) ⟨rfl, fun x hx => absurd hx (Nat.not_lt_zero _), none, none, rfl⟩ (fun i σ' H2 _ h2 => SqL.of (by rw [h2.1]; exact s1 _ _ e1)) ?_ ?_
        · rintro i z σ' H2 hi ⟨rfl, q2, o5, o6, rfl⟩
          obtain ⟨nz, hnz⟩ := (hD.item hs0 (List.mem_of_getElem? hi)).ty
          have hnz2 := tyN_keep s1 hnz
          have hil := (List.getElem?_eq_some_iff.mp hi).1
          have hno : ∀ {b : Bool}, ¬ IsInts H z n → (false = true ↔ FloorIs n ws rs H (.ref F)) := fun {b} hh => ⟨fun e => (nomatch e), fun hF => by
            have := (hF.ints hs0).2 i hil
            rw [getD_at hi] at this
            exact absurd this hh⟩
          refine ⟨_, rfl, _, nz, _, rfl, hnz2, kit7 hnz2 (T := "tuple") (by simp), _, rfl, ?_⟩
          refine ite2 (fun g => ?_) (fun g => ?_)
          · refine k false _ s1 (hno (b := true) ?_)
            rintro ⟨ks, ⟨a, rfl, ha⟩, hl⟩
            rw [ty_tup ha] at hnz
            cases hnz
            exact absurd g (by decide)
          have hnt : nz = "tuple" := by
            by_cases e : nz = "tuple"
            · exact e
            · have e' : (nz == "tuple") = false := by simp [e]
              rw [e'] at g
              simp at g
          subst hnt
          obtain ⟨b, xs, rfl, hb⟩ := tyN_tup hnz
          have hb1 := s1 _ _ hb
          refine ⟨_, rfl, b, _, rfl, .inr (SqT.of hb1), _, rfl, rfl, _, rfl, ?_⟩
          refine ite2 (fun g => ?_) (fun g => ?_)
          · refine k false _ s1 (hno (b := true) ?_)
            intro hh
            have := ((isInts_of rfl hb).mp hh).1
            exact absurd (by rw [List.length_map]; congr 1; omega) (ne_ne g)
          have hxl : (xs.length : Int) = n := by
            have := ne_yes g
            rw [List.length_map] at this
            have : (xs.length : Int) = (was.length : Int) := by injection this
            omega
          refine ⟨_, rfl, b, rfl, ⟨_, SqT.of hb1⟩, ?_⟩
          refine for_tup (K := K) (a := b) (xs := xs) (fun j σ' H3 => H3 = H2 ∧ (∀ x, x < j → isI (xs.getD x .non) = true) ∧ ∃ o6 : Option V, σ' = [some (.ref L), some (.ref d), some (.ref l), some (.ref F), some (.int (was.map V.ref).length), some (.ref b), o6, none, none, none, none, none, none]) ⟨rfl, fun x hx => absurd hx (Nat.not_lt_zero _), o6, rfl⟩ (fun j σ' H3 _ h3 => SqT.of (by rw [h3.1]; exact hb1)) ?_ ?_
          · rintro j y σ' H3 hj ⟨rfl, q3, o6, rfl⟩
            obtain ⟨ny, hny⟩ := ((hD.item hs0 (List.mem_of_getElem? hi)).item (.inl hb) (List.mem_of_getElem? hj)).ty
            refine ⟨_, rfl, _, ny, rfl, tyN_keep s1 hny, _, rfl, ?_⟩
            refine ite2 (fun g => ?_) (fun g => ?_)
            · refine k false _ s1 (hno (b := true) ?_)
              intro hh
              have := ((isInts_of rfl hb).mp hh).2 j (List.getElem?_eq_some_iff.mp hj).1
              rw [getD_at hj] at this
              rw [this] at g; cases g
            · refine ⟨rfl, fun x hx => ?_, _, rfl⟩
              by_cases e : x < j
              · exact q3 x e
              · obtain rfl : x = j := by omega
                rw [getD_at hj]
                cases e : isI y with
                | true => rfl
                | false => rw [e] at g; exact absurd rfl g
          · rintro σ' H3 ⟨rfl, q3, o6, rfl⟩
            refine ⟨rfl, fun j hj => ?_, _, _, rfl⟩
            by_cases e : j < i
            · exact q2 j e
            · obtain rfl : j = i := by omega
              rw [getD_at hi]
              exact (isInts_of rfl hb).mpr ⟨hxl, q3⟩
        · rintro σ' H2 ⟨rfl, q2, o5, o6, rfl⟩
          obtain ⟨hs, hp⟩ := paired_ints q2
          have hhl : hs.length = ts.length := (prd_len hp).symm
          obtain ⟨last, hlast⟩ : ∃ z, ts[ts.length - 1]? = some z := ⟨_, List.getElem?_eq_getElem (by omega)⟩
          obtain ⟨k0, hk0, hk1, hk2⟩ := prd_at1 hp hlast
          obtain ⟨lb, rfl, hlb⟩ := hk1
          have hlb1 := s1 _ _ hlb
          have hm1 : atI ts (-1) = some (.ref lb) := atI_neg1 hlast
          have hlk : hs.getD rs.length [] = k0 := getD_at (by rw [show rs.length = ts.length - 1 by omega]; exact hk0)
          refine ⟨_, rfl, _, rfl, by rw [List.length_map]; omega, by rw [List.length_map]; omega, ?_⟩
          refine for_range (lo := 0) (n := ((was.map V.ref).length : Int).toNat) (fun i σ' H3 => H3 = H2 ∧ (∀ a, a < i → k0.getD a 0 ≤ 0) ∧ ∃ o7 : Option V, σ' = [some (.ref L), some (.ref d), some (.ref l), some (.ref F), some (.int (was.map V.ref).length), o5, o6, o7, none, none, none, none, none]) ⟨rfl, fun x hx => absurd hx (Nat.not_lt_zero _), none, rfl⟩ ?_ ?_
          · rintro i σ' H3 hi ⟨rfl, q3, o7, rfl⟩
            have hi' : i < n.toNat := by rw [List.length_map] at hi; omega
            rw [Int.zero_add]
            refine ⟨_, rfl, _, rfl, ?_⟩
            refine SeqAt'.ix (K := K) (hs0.same s1) hm1 ?_
            refine ⟨_, rfl, lb, _, (i : Nat), .int (k0.getD i 0), rfl, rfl, SqT.of hlb1, atI_nat (by rw [List.getElem?_map, getDat 0 (by omega)]; rfl), ?_⟩
            refine ⟨_, _, rfl, rfl, _, rfl, ?_⟩
            refine ite2 (fun g => ?_) (fun g => ?_)
            · refine k false _ s1 ⟨fun e => (nomatch e), fun hF => ?_⟩
              have := ((floorIs_of hs0 htl hp).mp hF).last i hi'
              rw [hlk] at this
              have := of_decide_eq_true g
              omega
            · refine ⟨rfl, fun a ha => ?_, _, rfl⟩
              by_cases e : a < i
              · exact q3 a e
              · obtain rfl : a = i := by omega
                exact le_not fun h => absurd (decide_eq_true h) g
          · rintro σ' H3 ⟨rfl, q3, o7, rfl⟩
            have hR1 := hR.same s1
            have hM1 := hM.same s1
            refine ⟨_, rfl, l, _, rfl, .inl (SqL.of hl1), _, rfl, by rw [List.length_map]; omega, by rw [List.length_map]; omega, ?_⟩
            refine for_range (lo := 0) (n := ((zs.map V.str).length : Int).toNat) (fun i σ' H4 => H4 = H3 ∧ (∀ kk row, kk < i → rs[kk]? = some row → ∀ a b q, a < n.toNat → b < n.toNat → row.getD b none = some q → (hs.getD kk []).getD a 0 ≤ mat ws a b + q + (hs.getD (kk + 1) []).getD b 0) ∧ ∃ o8 o9 o10 o11 o12 : Option V, σ' = [some (.ref L), some (.ref d), some (.ref l), some (.ref F), some (.int (was.map V.ref).length), o5, o6, o7, o8, o9, o10, o11, o12]) ⟨rfl, fun kk _ h => absurd h (Nat.not_lt_zero _), none, none, none, none, none, rfl⟩ ?_ ?_
            · rintro i σ' H4 hi ⟨rfl, q4, o8, o9, o10, o11, o12, rfl⟩
              have hi' : i < zs.length := by rw [List.length_map] at hi; omega
              obtain ⟨z, hz'⟩ : ∃ z, zs[i]? = some z := ⟨_, List.getElem?_eq_getElem hi'⟩
              obtain ⟨row, hrow, hm⟩ := prd_at1 hrs hz'
              obtain ⟨pa, hg, hpa⟩ := hR1.get hm
              have hpr := hR.pr _ hm
              have hrl : (row.length : Int) = n := hpr.len
              obtain ⟨zi, hzi1⟩ : ∃ y, ts[i]? = some y := ⟨_, List.getElem?_eq_getElem (by omega)⟩
              obtain ⟨zj, hzj1⟩ : ∃ y, ts[i + 1]? = some y := ⟨_, List.getElem?_eq_getElem (by omega)⟩
              obtain ⟨ki, hki, hki2, hki3⟩ := prd_at1 hp hzi1
              obtain ⟨kj, hkj, hkj2, hkj3⟩ := prd_at1 hp hzj1
              obtain ⟨bi, rfl, hbi⟩ := hki2
              obtain ⟨bj, rfl, hbj⟩ := hkj2
              have hbi1 := s1 _ _ hbi
              have hbj1 := s1 _ _ hbj
              have hzs : (zs.map V.str)[i]? = some (.str z) := by rw [List.getElem?_map, hz']; rfl
              have hyes : ∀ {b : Bool}, (∃ a b q, a < n.toNat ∧ b < n.toNat ∧ row.getD b none = some q ∧ mat ws a b + q + kj.getD b 0 < ki.getD a 0) → (false = true ↔ FloorIs n ws rs H (.ref F)) := fun {_} ⟨a, b, q, ha, hb, hq, hlt⟩ => ⟨fun e => (nomatch e), fun hF => by
                have := ((floorIs_of hs0 htl hp).mp hF).step i row hrow a b q ha hb hq
                rw [getD_at hki, getD_at hkj] at this
                omega⟩
              rw [Int.zero_add]
              refine ⟨_, rfl, _, rfl, _, rfl, l, _, (i : Nat), .str z, rfl, rfl, SqL.of hl1, atI_nat hzs, d, .ref pa, rfl, hg, ?_⟩
              refine ⟨_, rfl, _, rfl, _, _, rfl, rfl, ?_⟩
              refine SeqAt'.ix (K := K) (hs0.same s1) (atI_nat (j := i + 1) hzj1) ?_
              refine ⟨_, rfl, _, rfl, by rw [List.length_map]; omega, by rw [List.length_map]; omega, ?_⟩
              refine for_range (lo := 0) (n := ((was.map V.ref).length : Int).toNat) (fun aa σ' H5 => H5 = H4 ∧ (∀ a b q, a < aa → b < n.toNat → row.getD b none = some q → ki.getD a 0 ≤ mat ws a b + q + kj.getD b 0) ∧ ∃ o11 o12 : Option V, σ' = [some (.ref L), some (.ref d), some (.ref l), some (.ref F), some (.int (was.map V.ref).length), o5, o6, o7, some (.int (i : Nat)), some (.ref pa), some (.ref bj), o11, o12]) ⟨rfl, fun a _ _ h => absurd h (Nat.not_lt_zero _), o11, o12, rfl⟩ ?_ ?_
              · rintro aa σ' H5 haa ⟨rfl, q5, o11, o12, rfl⟩
                have haa' : aa < n.toNat := by rw [List.length_map] at haa; omega
                obtain ⟨wa, hwa⟩ : ∃ b, was[aa]? = some b := ⟨_, List.getElem?_eq_getElem (by omega)⟩
                have hwar := s1 _ _ (w3 aa wa hwa)
                have w11 := s1 _ _ w1
                rw [Int.zero_add]
                refine ⟨_, rfl, _, rfl, by rw [List.length_map]; omega, by rw [List.length_map]; omega, ?_⟩
                refine for_range (lo := 0) (n := ((was.map V.ref).length : Int).toNat) (fun bb σ' H6 => H6 = H5 ∧ (∀ b q, b < bb → row.getD b none = some q → ki.getD aa 0 ≤ mat ws aa b + q + kj.getD b 0) ∧ ∃ o12 : Option V, σ' = [some (.ref L), some (.ref d), some (.ref l), some (.ref F), some (.int (was.map V.ref).length), o5, o6, o7, some (.int (i : Nat)), some (.ref pa), some (.ref bj), some (.int (aa : Nat)), o12]) ⟨rfl, fun b _ h => absurd h (Nat.not_lt_zero _), o12, rfl⟩ ?_ ?_
                · rintro bb σ' H6 hbb ⟨rfl, q6, o12, rfl⟩
                  have hbb' : bb < n.toNat := by rw [List.length_map] at hbb; omega
                  have r1 : (row.map vO)[bb]? = some (vO (row.getD bb none)) := by rw [List.getElem?_map, getDat none (by omega)]; rfl
                  rw [Int.zero_add]
                  refine ⟨_, rfl, _, rfl, pa, _, (bb : Nat), _, rfl, rfl, SqT.of hpa, atI_nat r1, rfl, _, rfl, ?_⟩
                  cases hc : row.getD bb none with
                  | none =>
                    refine ite2 (fun g => absurd g (by decide)) (fun _ => ?_)
                    refine ite2 (fun g => nomatch g) (fun _ => ?_)
                    refine ⟨rfl, fun b q hb hq => ?_, _, rfl⟩
                    by_cases e : b < bb
                    · exact q6 b q e hq
                    · obtain rfl : b = bb := by omega
                      rw [hc] at hq; cases hq
                  | some k' =>
                    refine ite2 (fun _ => ?_) (fun g => absurd (by rfl) g)
                    have r1' : (row.map vO)[bb]? = some (.int k') := by rw [r1, hc]; rfl
                    have hva : (ki.map V.int)[aa]? = some (.int (ki.getD aa 0)) := by rw [List.getElem?_map, getDat 0 (by omega)]; rfl
                    have hvb : (kj.map V.int)[bb]? = some (.int (kj.getD bb 0)) := by rw [List.getElem?_map, getDat 0 (by omega)]; rfl
                    have hme := eM aa bb haa' hbb'
                    refine ⟨_, rfl, _, rfl, ?_⟩
                    refine SeqAt'.ix (K := K) (hs0.same s1) (atI_nat hzi1) ?_
                    refine ⟨_, rfl, bi, _, (aa : Nat), _, rfl, rfl, SqT.of hbi1, atI_nat hva, ?_⟩
                    refine ⟨_, rfl, _, rfl, L, _, (aa : Nat), .ref wa, rfl, rfl, SqL.of w11, atI_nat (by rw [List.getElem?_map, hwa]; rfl), _, rfl, wa, _, (bb : Nat), _, rfl, rfl, SqL.of hwar, atI_nat (rowV_at hbb'), ?_⟩
                    refine ⟨_, rfl, _, rfl, pa, _, (bb : Nat), .int k', rfl, rfl, SqT.of hpa, atI_nat r1', _, _, rfl, rfl, ?_⟩
                    refine ⟨_, rfl, _, rfl, bj, _, (bb : Nat), _, rfl, rfl, SqT.of hbj1, atI_nat hvb, _, _, rfl, rfl, ?_⟩
                    refine ⟨_, _, rfl, rfl, _, rfl, ?_⟩
                    refine ite2 (fun g => ?_) (fun g => ?_)
                    · refine k false _ s1 (hyes (b := true) ⟨aa, bb, k', haa', hbb', hc, ?_⟩)
                      have := of_decide_eq_true g
                      omega
                    · refine ⟨rfl, fun b q hb hq => ?_, _, rfl⟩
                      by_cases e : b < bb
                      · exact q6 b q e hq
                      · obtain rfl : b = bb := by omega
                        rw [hc] at hq
                        cases hq
                        rw [← hme]
                        exact le_not fun h => absurd (decide_eq_true h) g
                · rintro σ' H6 ⟨rfl, q6, o12, rfl⟩
                  refine ⟨rfl, fun a b q ha hb hq => ?_, _, _, rfl⟩
                  by_cases e : a < aa
                  · exact q5 a b q e hb hq
                  · obtain rfl : a = aa := by omega
                    exact q6 b q (by rw [List.length_map]; omega) hq
              · rintro σ' H5 ⟨rfl, q5, o11, o12, rfl⟩
                refine ⟨rfl, fun kk row' hkk hrow' => ?_, _, _, _, _, _, rfl⟩
                by_cases e : kk < i
                · exact q4 kk row' e hrow'
                · obtain rfl : kk = i := by omega
                  rw [hrow] at hrow'
                  cases hrow'
                  rw [getD_at hki, getD_at hkj]
                  exact fun a b q ha hb hq => q5 a b q (by rw [List.length_map]; omega) hb hq
            · rintro σ' H4 ⟨rfl, q4, o8, o9, o10, o11, o12, rfl⟩
              refine k true _ s1 ⟨fun _ => (floorIs_of hs0 htl hp).mpr ⟨fun a ha => ?_, fun kk row hrow => ?_⟩, fun _ => rfl⟩
              · rw [hlk]; exact q3 a (by rw [List.length_map]; omega)
              · have := (List.getElem?_eq_some_iff.mp hrow).1
                exact q4 kk row (by rw [List.length_map]; omega) hrow
end
end Toy

namespace Toy
open PySem PySem.Spec PyProof.Rows L2
local macro_rules | `(tactic| walk_at "hp") => `(tactic| first
  | assumption
  | exact upd_same
  | (refine Eq.trans (upd_ne (by first | assumption | (apply Ne.symm; assumption))) ?_; walk_at "hp"))
local macro_rules | `(tactic| walk_at "side") => `(tactic| first
  | exact .inl ⟨by omega, by omega⟩
  | exact .inr ⟨by omega, by omega⟩
  | exact ⟨by omega, by omega⟩
  | (show _ ≤ _; omega)
  | (show (_ : Int) < _; omega)
  | decide
  | assumption)
local macro_rules | `(tactic| walk_at "r") => `(tactic| first
  | refine ⟨_, rfl, ?_⟩
  | refine ⟨_, _, rfl, rfl, ?_⟩
  | refine ⟨_, _, _, _, rfl, rfl, SqL.of (by walk_at "hp"), rfl, ?_⟩
  | refine ⟨_, _, _, _, rfl, rfl, SqT.of (by walk_at "hp"), rfl, ?_⟩
  | refine ⟨_, _, _, _, rfl, rfl, (by walk_at "hp"), rfl, ?_⟩
  | refine And.intro rfl ?_
  | refine ⟨_, _, rfl, SqT.of (by walk_at "hp"), ?_⟩
  | refine ⟨_, _, rfl, SqL.of (by walk_at "hp"), ?_⟩
  | refine .inl ⟨_, rfl, ?_⟩
  | refine ⟨_, _, rfl, .inl (SqL.of (by walk_at "hp")), ?_⟩
  | refine ⟨_, _, rfl, .inr (SqT.of (by walk_at "hp")), ?_⟩
  | refine ⟨_, _, rfl, .inl ⟨SqL.of (by walk_at "hp"), ?_⟩⟩
  | refine And.intro (.inl ⟨rfl, _, SqL.of (by walk_at "hp")⟩) ?_
  | refine ⟨_, _, _, rfl, rfl, (by walk_at "hp"), ?_⟩
  | refine ⟨_, _, rfl, (by walk_at "hp"), ?_⟩
  | refine And.intro (by walk_at "side") ?_)
local macro_rules | `(tactic| walk_at "rr") => `(tactic| (repeat walk_at "r"))
local macro_rules | `(tactic| walk_at "k") => `(tactic| first
  | refine ite2 (fun _ => ?_) (fun g => absurd rfl g)
  | refine ite2 (fun g => absurd g (by decide)) (fun _ => ?_)
  | refine ite2 (fun _ => ?_) (fun g => absurd (decide_eq_true (by omega)) g)
  | refine ite2 (fun g => absurd (of_decide_eq_true g) (by omega)) (fun _ => ?_)
  | refine ite2 (fun g => (nd_t g (by omega)).elim) (fun _ => ?_)
  | refine ite2 (fun _ => ?_) (fun g => absurd (nd_f g) (by omega)))
local macro_rules | `(tactic| walk_at "rk") => `(tactic| (repeat (first | walk_at "r" | walk_at "k")))
def spOdd : Sp := fun vs H Q _ => ∃ (d c : Addr), vs = [.ref d] ∧ Dice c H d ∧ ∀ v H', Dat (fun a => H a = none) H' v → Keep d H H' → Dice c H' d → Q v H'
theorem same_none {H H' : Hp} {a : Addr} (k : Same H H') (h : H' a = none) : H a = none := by
  cases e : H a with
  | none => rfl
  | some o => rw [k _ _ e] at h; cases h
section
variable {P : Program} {w : World} {K : PySem.W.Frag} {mg : Str → Option Value} {base : Heap}
theorem ok__law_odd (T : Top K mg) : Ok P w K mg base 2 "_law_odd" ["dice"] spOdd := by
  refine ok_of T.d__law_odd sc__law_odd (fun vs H Q E h => ?_) (fun f cdv A outer s H vs Q E hr h => ?_)
  · obtain ⟨d, c, rfl, _⟩ := h
    rfl
  · obtain ⟨d, c, rfl, D, k⟩ := h
    obtain ⟨f__law_draw, fd__law_draw, m__law_draw, k__law_draw, b__law_draw, G__law_draw⟩ := ok__law_draw (P := P) (w := w) (base := base) T
    have hr__law_draw : Room 1 _ := hr.mono (by decide)
    have hu := hu_of hr
    refine ⟨_, (pss_cons (ps_set (i := 1) sc__law_odd.nd rfl (Or.inl rfl) (pe_lst (pa_cons pe_int pa_nil)))
      (pss_cons (ps_for PassesOwn.never rfl (pi_range1 (by rfl) T.b_range (pa_cons pe_int pa_nil)) (pg_name (i := 2) sc__law_odd.nd rfl (Or.inl rfl))
      (pss_one (ps_set (i := 1) sc__law_odd.nd rfl (Or.inl rfl) (pe_lst (pa_cons (pv 1) pa_nil)))))
      (pss_cons (ps_set (i := 3) sc__law_odd.nd rfl (Or.inl rfl) (pe_lst (pa_cons pe_non (pa_cons pe_bl (pa_cons pe_bl (pa_cons pe_str (pa_cons pe_str (pa_cons pe_str (pa_cons (pe_lst pa_nil) (pa_cons (pe_tup pa_nil) (pa_cons pe_dnewK (pa_cons (pe_lst (pa_cons pe_int pa_nil)) (pa_cons (pe_tup (pa_cons pe_int pa_nil)) (pa_cons (pe_disp (pps_cons pe_str pe_int pps_nil) (by rfl) (by rfl) (fun z => by cases z) (by decide)) (pa_cons (pe_un un_neg pe_int) (pa_cons (pe_op op_pow pe_int pe_int) (pa_cons (pv 1) (pa_cons (pe_tup (pa_cons pe_non (pa_cons pe_str pa_nil))) pa_nil))))))))))))))))))
      (pss_one (ps_ret (pe_ix ix_list (pv 3) (pe_call G__law_draw hr__law_draw rfl m__law_draw k__law_draw b__law_draw .nil pass0 (pa_cons (pv 0) (pa_cons (pe_callB (id := "len") call_len_seq (by rfl) T.b_len (by decide +kernel) (pa_cons (pv 3) pa_nil)) pa_nil))) (fun _ _ => rfl))))))), ?_⟩
    refine ⟨(by show 1 ≤ sizeLine; decide), fun l0 nl0 => ?_⟩
    refine ⟨_, rfl, by decide, by decide, ?_⟩
    refine for_range (lo := 0) (n := 24) (fun i σ' H1 => ∃ (p : Addr) (o : Option V), σ' = [some (.ref d), some (.ref p), o, none] ∧ Dat (fun a => H a = none) H1 (.ref p) ∧ Same H H1) ⟨l0, none, rfl, .lst _ _ nl0 upd_same (by intro x hx; rw [List.mem_singleton.mp hx]; exact .int 0), same_new nl0⟩ ?_ ?_
    · rintro i σ' H1 hi ⟨p, o, rfl, hp, s1⟩
      refine ⟨_, rfl, (by show 1 ≤ sizeLine; decide), fun l1 nl1 => ?_⟩
      exact ⟨l1, _, rfl, .lst _ _ (same_none s1 nl1) upd_same (by intro x hx; rw [List.mem_singleton.mp hx]; exact hp.same (same_new nl1)), s1.trans (same_new nl1)⟩
    · rintro σ' H1 ⟨p, o, rfl, hp, s1⟩
      refine ⟨(by show 0 ≤ sizeLine; decide), fun a1 n1 => ?_⟩
      have e1 : (upd H1 a1 (.lst [])) a1 = some (.lst []) := upd_same
      have t1 : Same H1 (upd H1 a1 (.lst [])) := same_new n1
      generalize upd H1 a1 (.lst []) = H2 at *
      refine ⟨(by show 0 ≤ sizeLine; decide), fun a2 n2 => ?_⟩
      have e2 : (upd H2 a2 (.tup [])) a2 = some (.tup []) := upd_same
      have t2 : Same H2 (upd H2 a2 (.tup [])) := same_new n2
      generalize upd H2 a2 (.tup []) = H3 at *
      intro a3 n3
      have e3 : (upd H3 a3 (.dK [])) a3 = some (.dK []) := upd_same
      have t3 : Same H3 (upd H3 a3 (.dK [])) := same_new n3
      generalize upd H3 a3 (.dK []) = H4 at *
      refine ⟨(by show 1 ≤ sizeLine; decide), fun a4 n4 => ?_⟩
      have e4 : (upd H4 a4 (.lst [.int 0])) a4 = some (.lst [.int 0]) := upd_same
      have t4 : Same H4 (upd H4 a4 (.lst [.int 0])) := same_new n4
      generalize upd H4 a4 (.lst [.int 0]) = H5 at *
      refine ⟨(by show 1 ≤ sizeLine; decide), fun a5 n5 => ?_⟩
      have e5 : (upd H5 a5 (.tup [.int 0])) a5 = some (.tup [.int 0]) := upd_same
      have t5 : Same H5 (upd H5 a5 (.tup [.int 0])) := same_new n5
      generalize upd H5 a5 (.tup [.int 0]) = H6 at *
      intro a6 n6
      refine ⟨upd_same, [(Sum.inr "a", .int 0)], rfl, (by show 1 ≤ 15; decide), ?_⟩
      rw [upd_upd]
      have t6 : Same H6 (upd H6 a6 (.dK (mergeK [] [(Sum.inr "a", .int 0)]))) := same_new n6
      have e6 : (upd H6 a6 (.dK (mergeK [] [(Sum.inr "a", .int 0)]))) a6 = some (.dK [(Sum.inr "a", .int 0)]) := upd_same
      generalize upd H6 a6 (.dK (mergeK [] [(Sum.inr "a", .int 0)])) = H7 at *
      walk_at "rr"
      intro a7 n7
      have e7 : (upd H7 a7 (.tup [.non, .str "a"])) a7 = some (.tup [.non, .str "a"]) := upd_same
      have t7 : Same H7 (upd H7 a7 (.tup [.non, .str "a"])) := same_new n7
      generalize upd H7 a7 (.tup [.non, .str "a"]) = H8 at *
      refine ⟨(by show 16 ≤ sizeLine; decide), fun m nm => ?_⟩
      let xs : List V := [.non, .bl true, .bl false, .str "", .str "a", .str "Ab", .ref a1, .ref a2, .ref a3, .ref a4, .ref a5, .ref a6, .int (-1), .int (10 ^ 29), .ref p, .ref a7]
      have em : (upd H8 m (.lst xs)) m = some (.lst xs) := upd_same
      have tm : Same H8 (upd H8 m (.lst xs)) := same_new nm
      obtain ⟨H9, hH9⟩ : ∃ H9, H9 = upd H8 m (.lst xs) := ⟨_, rfl⟩
      rw [← hH9] at em tm
      have s8 := t7.trans tm
      have s7 := t6.trans s8
      have s6 := t5.trans s7
      have s5 := t4.trans s6
      have s4 := t3.trans s5
      have s3 := t2.trans s4
      have s2 := t1.trans s3
      have hN : ∀ {a : Addr} {H' : Hp}, Same H1 H' → H' a = none → H a = none := fun k h => same_none (s1.trans k) h
      have q2 := t1
      have q3 := q2.trans t2
      have q4 := q3.trans t3
      have q5 := q4.trans t4
      have q6 := q5.trans t5
      have q7 := q6.trans t6
      have dat : ∀ x ∈ xs, Dat (fun a => H a = none) H9 x := by
        intro x hx
        simp only [xs, List.mem_cons, List.not_mem_nil, or_false] at hx
        rcases hx with rfl | rfl | rfl | rfl | rfl | rfl | rfl | rfl | rfl | rfl | rfl | rfl | rfl | rfl | rfl | rfl
        · exact .non
        · exact .bl _
        · exact .bl _
        · exact .str _
        · exact .str _
        · exact .str _
        · exact .lst _ _ (hN (Same.refl _) n1) (s3 _ _ e1) (by intro x hx; cases hx)
        · exact .tup _ _ (hN q2 n2) (s4 _ _ e2) (by intro x hx; cases hx)
        · exact .dK _ _ (hN q3 n3) (s5 _ _ e3) (by intro x hx; cases hx)
        · exact .lst _ _ (hN q4 n4) (s6 _ _ e4) (by intro x hx; rw [List.mem_singleton.mp hx]; exact .int _)
        · exact .tup _ _ (hN q5 n5) (s7 _ _ e5) (by intro x hx; rw [List.mem_singleton.mp hx]; exact .int _)
        · exact .dK _ _ (hN q6 n6) (s8 _ _ e6) (by intro x hx; rw [List.mem_singleton.mp hx]; exact .int _)
        · exact .int _
        · exact .int _
        · exact hp.same s2
        · exact .tup _ _ (hN q7 n7) (tm _ _ e7) (by
            intro x hx
            rcases List.mem_cons.mp hx with rfl | hx
            · exact .non
            · rw [List.mem_singleton.mp hx]; exact .str _)
      have D9 : Dice c H9 d := D.same (s1.trans s2)
      have k9 : Keep d H H9 := same_keep (s1.trans s2)
      have hl : xs.length = 16 := rfl
      subst hH9
      refine ⟨_, rfl, _, rfl, _, rfl, m, xs, rfl, .inl (SqL.of em), d, c, _, rfl, D9, by omega, by omega, fun v H10 v0 v1 k10 D10 => ?_⟩
      have nmd : m ≠ d := by
        intro z; subst z
        obtain ⟨o', e⟩ := D.some
        rw [hN (q7.trans t7) nm] at e
        cases e
      have em' := k10 _ _ nmd em
      obtain ⟨x, hx⟩ : ∃ x, xs[v.toNat]? = some x := ⟨_, List.getElem?_eq_getElem (by omega)⟩
      refine ⟨m, xs, v, x, rfl, rfl, SqL.of em', ?_, ?_⟩
      · have := atI_nat (xs := xs) hx
        rwa [Int.toNat_of_nonneg v0] at this
      · refine k x H10 ((dat x (List.mem_of_getElem? hx)).mono (fun a o na ea => k10 a o (fun z => ?_) ea) fun a h _ => h) (k9.trans k10) D10
        subst z
        obtain ⟨o', e⟩ := D.some
        rw [e] at na; cases na
end
end Toy

namespace Toy
open PySem PySem.Spec PyProof.Rows L2
local macro_rules | `(tactic| walk_at "hp") => `(tactic| first
  | assumption
  | exact upd_same
  | (refine Eq.trans (upd_ne (by first | assumption | (apply Ne.symm; assumption))) ?_; walk_at "hp"))
local macro_rules | `(tactic| walk_at "side") => `(tactic| first
  | exact .inl ⟨by omega, by omega⟩
  | exact .inr ⟨by omega, by omega⟩
  | exact ⟨by omega, by omega⟩
  | (show _ ≤ _; omega)
  | (show (_ : Int) < _; omega)
  | decide
  | assumption)
local macro_rules | `(tactic| walk_at "r") => `(tactic| first
  | refine ⟨_, rfl, ?_⟩
  | refine ⟨_, _, rfl, rfl, ?_⟩
  | refine ⟨_, _, _, _, rfl, rfl, SqL.of (by walk_at "hp"), rfl, ?_⟩
  | refine ⟨_, _, _, _, rfl, rfl, SqT.of (by walk_at "hp"), rfl, ?_⟩
  | refine ⟨_, _, _, _, rfl, rfl, (by walk_at "hp"), rfl, ?_⟩
  | refine And.intro rfl ?_
  | refine ⟨_, _, rfl, SqT.of (by walk_at "hp"), ?_⟩
  | refine ⟨_, _, rfl, SqL.of (by walk_at "hp"), ?_⟩
  | refine .inl ⟨_, rfl, ?_⟩
  | refine ⟨_, _, rfl, .inl (SqL.of (by walk_at "hp")), ?_⟩
  | refine ⟨_, _, rfl, .inr (SqT.of (by walk_at "hp")), ?_⟩
  | refine ⟨_, _, rfl, .inl ⟨SqL.of (by walk_at "hp"), ?_⟩⟩
  | refine And.intro (.inl ⟨rfl, _, SqL.of (by walk_at "hp")⟩) ?_
  | refine ⟨_, _, _, rfl, rfl, (by walk_at "hp"), ?_⟩
  | refine ⟨_, _, rfl, (by walk_at "hp"), ?_⟩
  | refine And.intro (by walk_at "side") ?_)
local macro_rules | `(tactic| walk_at "rr") => `(tactic| (repeat walk_at "r"))
local macro_rules | `(tactic| walk_at "k") => `(tactic| first
  | refine ite2 (fun _ => ?_) (fun g => absurd rfl g)
  | refine ite2 (fun g => absurd g (by decide)) (fun _ => ?_)
  | refine ite2 (fun _ => ?_) (fun g => absurd (decide_eq_true (by omega)) g)
  | refine ite2 (fun g => absurd (of_decide_eq_true g) (by omega)) (fun _ => ?_)
  | refine ite2 (fun g => (nd_t g (by omega)).elim) (fun _ => ?_)
  | refine ite2 (fun _ => ?_) (fun g => absurd (nd_f g) (by omega)))
local macro_rules | `(tactic| walk_at "rk") => `(tactic| (repeat (first | walk_at "r" | walk_at "k")))
/-- a list of tuples of n ints -/
def HtsAt (H : Hp) (R : Addr) (n : Int) (m : Nat) : Prop := ∃ ts hs, H R = some (.lst ts) ∧ Paired (fun z ks => IntT H z ks ∧ (ks.length : Int) = n) ts hs ∧ ts.length = m
def spHeights : Sp := fun vs H Q _ => ∃ (L q l : Addr) (M : Nat → Nat → Int) (n : Int) (rs0 : List (Str × List (Option Int))) (zs : List Str) (rs : List (List (Option Int))), vs = [.ref L, .ref q, .ref l] ∧ LM H L n.toNat M ∧ 1 ≤ n ∧ n ≤ 6 ∧ ReqAt H q n rs0 ∧ H l = some (.lst (zs.map V.str)) ∧
  Paired (fun z r => (z, r) ∈ rs0) zs rs ∧ zs.length ≤ 900 ∧ ∀ R H', Same H H' → H R = none → HtsAt H' R n (zs.length + 1) → Q (.ref R) H'
def spLowered : Sp := fun vs H Q _ => ∃ (d c R : Addr) (n : Int) (m : Nat), vs = [.ref d, .ref R] ∧ Dice c H d ∧ R ≠ d ∧ HtsAt H R n m ∧ m ≤ 901 ∧ n ≤ 6 ∧
  ∀ R' H', Keep d H H' → Dice c H' d → H R' = none → HtsAt H' R' n m → Q (.ref R') H'
section
variable {P : Program} {w : World} {K : PySem.W.Frag} {mg : Str → Option Value} {base : Heap}
theorem ok__law_heights (T : Top K mg) : Ok P w K mg base 1 "_law_heights" ["ways", "requests", "row"] spHeights := by
  refine ok_of T.d__law_heights sc__law_heights (fun vs H Q E h => ?_) (fun f cdv A outer s H vs Q E hr h => ?_)
  · obtain ⟨L, q, l, M, n, rs0, zs, rs, rfl, _⟩ := h
    rfl
  · obtain ⟨L, q, l, M, n, rs0, zs, rs, rfl, hM, n1, n6, hR, hl, hrs, hz9, k⟩ := h
    skip
    have hu := hu_of hr
    have hlen := prd_len hrs
    obtain ⟨was, w1, w2, w3⟩ := hM.ex
    have hwn : ((was.map V.ref).length : Int).toNat = n.toNat := by rw [List.length_map]; omega
    refine ⟨_, (pss_cons (ps_set (i := 3) sc__law_heights.nd rfl (Or.inr rfl) (pe_lst (pa_cons (pe_callTy (T := "tuple") call_tuple_of (by rfl) T.b_tuple (by decide +kernel) (pa_cons (pe_lc (own := [("post", 9)]) (g := gName 9) rfl sc__law_heights.nd (pi_range1 (by rfl) T.b_range (pa_cons (pe_callB (id := "len") call_len_seq (by rfl) T.b_len (by decide +kernel) (pa_cons (pv 0) pa_nil)) pa_nil)) (blkOk_by (own := [("post", 9)]) (N := ["ways", "requests", "row", "heights", "name", "prices", "posts", "ahead", "way", "post"]) (sc := defScope s__law_heights) (by decide +kernel)) (fun _ _ _ _ _ => (pg_name (i := 9) sc__law_heights.nd rfl (Or.inl rfl))) (fun _ _ _ _ _ => pts_nil) (fun _ _ _ _ _ => pe_int)) pa_nil)) pa_nil)))
      (pss_cons (ps_for PassesOwn.never rfl (RT.pi_revA (by rfl) T.b_reversed (pv 2)) (pg_name (i := 4) sc__law_heights.nd rfl (Or.inl rfl))
      (pss_cons (ps_set (i := 5) sc__law_heights.nd rfl (Or.inr rfl) (pe_dget hu (pv 1) (pv 4) (fun _ _ => rfl)))
      (pss_cons (ps_setLc (i := 6) (own := [("post", 9)]) (g := gName 9) rfl sc__law_heights.nd rfl rfl (sw_true rfl rfl rfl (by decide +kernel)) (pi_range1 (by rfl) T.b_range (pa_cons (pe_callB (id := "len") call_len_seq (by rfl) T.b_len (by decide +kernel) (pa_cons (pv 0) pa_nil)) pa_nil)) (blkOk_by (own := [("post", 9)]) (N := ["ways", "requests", "row", "heights", "name", "prices", "posts", "ahead", "way", "post"]) (sc := defScope s__law_heights) (by decide +kernel)) (fun _ _ _ _ _ => (pg_name (i := 9) sc__law_heights.nd rfl (Or.inl rfl))) (fun _ _ _ _ _ => (pts_one (pt_cmpR op_notN (pe_ix (ix_tup : IxR _ (rIxT K)) (pv 5) (pv 9) (fun _ _ => rfl)) pe_non (nomark _)))) (fun _ _ _ _ _ => (pv 9)))
      (pss_cons (ps_set (i := 7) sc__law_heights.nd rfl (Or.inl rfl) (pe_lst pa_nil))
      (pss_cons (ps_for PassesOwn.never rfl (pi_list (pv 0)) (pg_name (i := 8) sc__law_heights.nd rfl (Or.inr rfl))
      (pss_one (ps_expr (pe_bm PySem.F.plainAttrs_list PySem.F.slot_list_append PySem.F.type_list_append mt_append (pv 7) (pa_cons (pe_callB (id := "min") (cr_min rfl) (by rfl) T.b_min (by decide +kernel) (pa_cons (pe_lc (own := [("post", 9)]) (g := gName 9) rfl sc__law_heights.nd (pi_list (pv 6)) (blkOk_by (own := [("post", 9)]) (N := ["ways", "requests", "row", "heights", "name", "prices", "posts", "ahead", "way", "post"]) (sc := defScope s__law_heights) (by decide +kernel)) (fun _ _ _ _ _ => (pg_name (i := 9) sc__law_heights.nd rfl (Or.inl rfl))) (fun _ _ _ _ _ => pts_nil) (fun _ _ _ _ _ => (pe_op op_add (pe_op op_add (pe_ix (ix_list : IxR _ (rIxL K)) (pv 8) (pv 9) (fun _ _ => rfl)) (pe_ix (ix_tup : IxR _ (rIxT K)) (pv 5) (pv 9) (fun _ _ => rfl))) (pe_ix (ix_tup : IxR _ (rIxT K)) (pe_ix (ix_list : IxR _ (rIxL K)) (pv 3) pe_int (fun _ _ => rfl)) (pv 9) (fun _ _ => rfl))))) pa_nil)) pa_nil)))))
      (pss_one (ps_set (i := 3) sc__law_heights.nd rfl (Or.inr rfl) (pe_op op_cat (pe_lst (pa_cons (pe_callTy (T := "tuple") call_tuple_of (by rfl) T.b_tuple (by decide +kernel) (pa_cons (pv 7) pa_nil)) pa_nil)) (pv 3)))))))))
      (pss_one (ps_ret (pv 3))))), ?_⟩
    refine ⟨_, rfl, L, _, rfl, .inl (SqL.of w1), _, rfl, by rw [List.length_map]; omega, by rw [List.length_map]; omega, fun D nD => ?_⟩
    refine lc_range (lo := 0) (n := ((was.map V.ref).length : Int).toNat) (fun j H4 => H4 D = some (.lst ((List.replicate j (0 : Int)).map V.int)) ∧ Same H H4) ⟨upd_same, same_new nD⟩ ?_ ?_
    · rintro j H4 hj ⟨q1, q2⟩
      refine ⟨rfl, ?_⟩
      refine yesT ?_
      refine ⟨_, q1, ?_, ?_, same_upd q2 nD⟩
      · rw [List.length_map, List.length_replicate]; exact small1000 (by omega)
      · rw [upd_same, List.replicate_succ', List.map_append]; rfl
    rintro H1 ⟨q1, s1⟩
    refine ⟨D, _, rfl, .inl ⟨SqL.of q1, fun t nt => ?_⟩⟩
    refine ⟨(by show 1 ≤ sizeLine; decide), fun R0 nR0 => ?_⟩
    have s2 : Same H (upd (upd H1 t (.tup ((List.replicate ((was.map V.ref).length : Int).toNat (0 : Int)).map V.int))) R0 (.lst [.ref t])) := (s1.trans (same_new nt)).trans (same_new nR0)
    have nR0H : H R0 = none := same_none (s1.trans (same_new nt)) nR0
    have ntR : t ≠ R0 := by
      intro z; subst z; rw [upd_same] at nR0; cases nR0
    have h0 : HtsAt (upd (upd H1 t (.tup ((List.replicate ((was.map V.ref).length : Int).toNat (0 : Int)).map V.int))) R0 (.lst [.ref t])) R0 n (0 + 1) :=
      ⟨[.ref t], [List.replicate n.toNat 0], upd_same, .cons ⟨⟨t, rfl, by rw [upd_ne ntR, upd_same, hwn]⟩, by rw [List.length_replicate]; omega⟩ .nil, rfl⟩
    generalize upd (upd H1 t (.tup ((List.replicate ((was.map V.ref).length : Int).toNat (0 : Int)).map V.int))) R0 (.lst [.ref t]) = H2 at *
    refine ⟨_, rfl, l, zs.map V.str, rfl, .inl ⟨SqL.of (s2 _ _ hl), ?_⟩⟩
    refine for_it walk_rev (fun i σ' H3 => ∃ (R : Addr) (o4 o5 o6 o7 o8 : Option V), σ' = [some (.ref L), some (.ref q), some (.ref l), some (.ref R), o4, o5, o6, o7, o8, none] ∧ HtsAt H3 R n (i + 1) ∧ H R = none ∧ Same H H3) ⟨R0, none, none, none, none, none, rfl, h0, nR0H, s2⟩ (fun i σ' H3 _ ⟨_, _, _, _, _, _, _, _, _, q⟩ => SqL.of (q _ _ hl)) ?_ ?_
    · rintro i x σ' H3 H3' hi ⟨R, o4, o5, o6, o7, o8, rfl, ⟨ts, hs, e1, e2, e3⟩, nR, s3⟩ ⟨rfl, hx⟩
      obtain ⟨z, hz, rfl⟩ := map_at hx
      obtain ⟨row, hrow, hm⟩ := prd_at1 hrs hz
      obtain ⟨pa, hg, hpa⟩ := (hR.same s3).get hm
      have hpr : Prices n 9 row := hR.pr _ hm
      have hrl : (row.length : Int) = n := hpr.len
      have hil : i < zs.length := by rw [List.length_map] at hi; exact hi
      refine ⟨_, rfl, _, rfl, q, .ref pa, rfl, hg, ?_⟩
      refine ⟨_, rfl, L, _, rfl, .inl (SqL.of (s3 _ _ w1)), _, rfl, by rw [List.length_map]; omega, by rw [List.length_map]; omega, fun D1 nD1 => ?_⟩
      refine lc_range (lo := 0) (n := ((was.map V.ref).length : Int).toNat) (fun j H4 => ∃ pl : List Nat, H4 D1 = some (.lst (pl.map fun x => V.int (x : Nat))) ∧ (∀ x ∈ pl, x < n.toNat ∧ ∃ k, row.getD x none = some k) ∧ (∀ x, x < j → (∃ k, row.getD x none = some k) → x ∈ pl) ∧ pl.length ≤ j ∧ Same H3' H4) ⟨[], upd_same, (by intro x hx; cases hx), fun x hx => absurd hx (Nat.not_lt_zero _), Nat.le_refl _, same_new nD1⟩ ?_ ?_
      · rintro j H4 hj ⟨pl, p1, p2, p3, p4, p5⟩
        have hj' : j < n.toNat := by omega
        have hpa2 := p5 _ _ hpa
        have r1 : (row.map vO)[j]? = some (vO (row.getD j none)) := by rw [List.getElem?_map, getDat none (by omega)]; rfl
        rw [Int.zero_add]
        refine ⟨rfl, ?_⟩
        refine ⟨_, rfl, _, rfl, pa, _, _, _, rfl, rfl, SqT.of hpa2, atI_nat r1, rfl, _, rfl, ?_⟩
        cases hc : row.getD j none with
        | none =>
          refine ite2 (fun g => absurd g (by decide)) (fun _ => ?_)
          refine ⟨pl, p1, p2, fun x hx hk => ?_, by omega, p5⟩
          by_cases e : x < j
          · exact p3 x e hk
          · obtain rfl : x = j := by omega
            obtain ⟨k', hk⟩ := hk
            rw [hc] at hk; cases hk
        | some c =>
          refine ite2 (fun _ => ?_) (fun g => absurd (by rfl) g)
          refine ⟨_, rfl, _, p1, ?_, pl ++ [j], ?_, ?_, ?_, by rw [List.length_append]; simp; omega, same_upd p5 nD1⟩
          · rw [List.length_map]; exact small1000 (by omega)
          · rw [upd_same, List.map_append]; rfl
          · intro x hx
            rcases List.mem_append.mp hx with h | h
            · exact p2 x h
            · rw [List.mem_singleton.mp h]; exact ⟨hj', c, hc⟩
          · intro x hx hk
            by_cases e : x < j
            · exact List.mem_append_left _ (p3 x e hk)
            · obtain rfl : x = j := by omega
              exact List.mem_append_right _ (List.mem_singleton.mpr rfl)
      rintro H4 ⟨pl, p1, p2, p3, p4, p5⟩
      have hne : pl ≠ [] := by
        obtain ⟨x, hx⟩ := hpr.some
        obtain ⟨j, hj⟩ := List.getElem?_of_mem hx
        have hjl := (List.getElem?_eq_some_iff.mp hj).1
        have := p3 j (by omega) ⟨x, getD_at hj⟩
        intro e; rw [e] at this; cases this
      refine ⟨(by show 0 ≤ sizeLine; decide), fun B nB => ?_⟩
      have nBH : H3' B = none := same_none p5 nB
      have s5 : Same H3' (upd H4 B (.lst [])) := p5.trans (same_new nB)
      refine ⟨_, rfl, L, rfl, ⟨_, SqL.of (s5 _ _ (s3 _ _ w1))⟩, ?_⟩
      refine for_list (K := K) (a := L) (xs := was.map V.ref) (fun aa σ' H5 => ∃ (bs : List Int) (o8 : Option V), σ' = [some (.ref L), some (.ref q), some (.ref l), some (.ref R), some (.str z), some (.ref pa), some (.ref D1), some (.ref B), o8, none] ∧ H5 B = some (.lst (bs.map V.int)) ∧ bs.length = aa ∧ Same H3' H5 ∧ H5 D1 = some (.lst (pl.map fun x => V.int (x : Nat))))
        ⟨[], o8, rfl, upd_same, rfl, s5, (upd_ne (ne_of_none p1 nB)).trans p1⟩ (fun aa σ' H5 _ ⟨_, _, _, _, _, q, _⟩ => SqL.of (q _ _ (s3 _ _ w1))) ?_ ?_
      · rintro aa x σ' H5 hx ⟨bs, o8, rfl, f1, f2, f3, f4⟩
        obtain ⟨wa, hwa, rfl⟩ := map_at hx
        have haa' := (List.getElem?_eq_some_iff.mp hwa).1
        have hwar := w3 aa wa hwa
        refine ⟨_, rfl, .inl ⟨rfl, _, SqL.of f1⟩, ?_⟩
        refine ⟨_, rfl, D1, rfl, ⟨_, SqL.of f4⟩, fun C nC => ?_⟩
        refine lc_list (K := K) (a := D1) (xs := pl.map fun x => V.int (x : Nat)) (fun j H6 => ∃ cs : List Int, H6 C = some (.lst (cs.map V.int)) ∧ cs.length = j ∧ Same H5 H6) ⟨[], upd_same, rfl, same_new nC⟩ (fun j H6 _ ⟨_, _, _, g⟩ => SqL.of (g _ _ f4)) ?_ ?_
        · rintro j x H6 hj ⟨cs, g1, g2, g3⟩
          obtain ⟨y, hy, rfl⟩ := map_at hj
          obtain ⟨hyn, c, hc⟩ := p2 y (List.mem_of_getElem? hy)
          have hyl := (List.getElem?_eq_some_iff.mp hy).1
          have s6 := f3.trans g3
          have r1' : (row.map vO)[y]? = some (.int c) := by rw [List.getElem?_map, getDat none (by omega), hc]; rfl
          obtain ⟨t0, ht0⟩ : ∃ t, ts[0]? = some t := ⟨_, List.getElem?_eq_getElem (by omega)⟩
          obtain ⟨k0, hk0, ⟨b0, rfl, hb0⟩, hk2⟩ := prd_at1 e2 ht0
          refine ⟨rfl, ?_⟩
          refine yesT ?_
          refine ⟨_, rfl, _, rfl, wa, _, (y : Nat), _, rfl, rfl, SqL.of (s6 _ _ (s3 _ _ hwar)), atI_nat (rowV_at hyn), ?_⟩
          refine ⟨_, rfl, _, rfl, pa, _, (y : Nat), .int c, rfl, rfl, SqT.of (s6 _ _ hpa), atI_nat r1', _, _, rfl, rfl, ?_⟩
          refine ⟨_, rfl, R, _, 0, .ref b0, rfl, rfl, SqL.of (s6 _ _ e1), atI_nat (j := 0) ht0, _, rfl, b0, _, (y : Nat), .int (k0.getD y 0), rfl, rfl, SqT.of (s6 _ _ hb0), atI_nat (by rw [List.getElem?_map, getDat 0 (by omega)]; rfl), _, _, rfl, rfl, ?_⟩
          refine ⟨_, g1, ?_, cs ++ [M aa y + c + k0.getD y 0], ?_, ?_, same_upd g3 nC⟩
          · rw [List.length_map, g2]; exact small1000 (by omega)
          · rw [upd_same, List.map_append]; rfl
          · rw [List.length_append, g2]; rfl
        · rintro H6 ⟨cs, g1, g2, g3⟩
          have hpos : 0 < pl.length := List.length_pos_iff.mpr hne
          refine ⟨C, cs, rfl, SqL.of g1, (by rw [g2, List.length_map]; exact hpos), fun mm _ _ => ?_⟩
          have nBB : H5 B = _ := f1
          refine ⟨B, _, _, rfl, rfl, g3 _ _ f1, ?_, bs ++ [mm], _, rfl, ?_, ?_, same_upd (f3.trans g3) nBH, ?_⟩
          · rw [List.length_map, f2]; exact small1000 (by omega)
          · rw [upd_same, List.map_append]; rfl
          · rw [List.length_append, f2]; rfl
          · have : D1 ≠ B := by
              intro e; subst e; rw [p1] at nB; cases nB
            rw [upd_ne this]; exact g3 _ _ f4
      · rintro σ' H5 ⟨bs, o8, rfl, f1, f2, f3, f4⟩
        refine ⟨_, rfl, B, _, rfl, .inl ⟨SqL.of f1, fun t1 nt1 => ?_⟩⟩
        refine ⟨(by show 1 ≤ sizeLine; decide), fun R1 nR1 => ?_⟩
        have s7 : Same H3' (upd (upd H5 t1 (.tup (bs.map V.int))) R1 (.lst [.ref t1])) := (f3.trans (same_new nt1)).trans (same_new nR1)
        have s5t : Same H3' (upd H5 t1 (.tup (bs.map V.int))) := f3.trans (same_new nt1)
        have ht1 : (upd (upd H5 t1 (.tup (bs.map V.int))) R1 (.lst [.ref t1])) t1 = some (.tup (bs.map V.int)) := by
          have : t1 ≠ R1 := by intro z; subst z; rw [upd_same] at nR1; cases nR1
          rw [upd_ne this, upd_same]
        refine ⟨_, rfl, R1, R, _, _, rfl, rfl, upd_same, s7 _ _ e1, ?_, fun R2 nR2 => ?_⟩
        · exact Nat.le_of_lt (small1000 (by simp; omega))
        refine ⟨R2, _, _, _, _, _, rfl, ⟨.ref t1 :: ts, bs :: hs, upd_same, .cons ⟨⟨t1, rfl, ?_⟩, ?_⟩ (prd_imp e2 fun x y r => ⟨IntT.firm _ _ _ _ (same_tups (s7.trans (same_new nR2))) r.1, r.2⟩), by rw [List.length_cons, e3]⟩, same_none (s3.trans s7) nR2, (s3.trans s7).trans (same_new nR2)⟩
        · exact (same_new nR2) _ _ ht1
        · rw [f2, List.length_map]; omega
    · rintro σ' H3 ⟨R, o4, o5, o6, o7, o8, rfl, hH, nR, s3⟩
      rw [List.length_map] at hH
      exact ⟨_, rfl, k R H3 s3 nR hH⟩
theorem ok__law_lowered (T : Top K mg) : Ok P w K mg base 2 "_law_lowered" ["dice", "heights"] spLowered := by
  refine ok_of T.d__law_lowered sc__law_lowered (fun vs H Q E h => ?_) (fun f cdv A outer s H vs Q E hr h => ?_)
  · obtain ⟨d, c, R, n, m, rfl, _⟩ := h
    rfl
  · obtain ⟨d, c, R, n, m, rfl, D, nRd, ⟨ts, hs, e1, e2, e3⟩, hm, n6, k⟩ := h
    obtain ⟨f__law_draw, fd__law_draw, m__law_draw, k__law_draw, b__law_draw, G__law_draw⟩ := ok__law_draw (P := P) (w := w) (base := base) T
    have hr__law_draw : Room 1 _ := hr.mono (by decide)
    refine ⟨_, (pss_cons (ps_set (i := 2) sc__law_lowered.nd rfl (Or.inr rfl) pe_int)
      (pss_cons (ps_set (i := 3) sc__law_lowered.nd rfl (Or.inl rfl) (pe_lst pa_nil))
      (pss_cons (ps_for PassesOwn.never rfl (RT.pi_revA (by rfl) T.b_reversed (pv 1)) (pg_name (i := 4) sc__law_lowered.nd rfl (Or.inl rfl))
      (pss_cons (ps_set (i := 2) sc__law_lowered.nd rfl (Or.inr rfl) (pe_op op_add (pv 2) (pe_op op_mul (pe_call G__law_draw hr__law_draw rfl m__law_draw k__law_draw b__law_draw .nil pass0 (pa_cons (pv 0) (pa_cons pe_int pa_nil))) (pe_ix ix_list (pe_lst (pa_cons pe_int (pa_cons (pe_op op_pow pe_int pe_int) pa_nil))) (pe_call G__law_draw hr__law_draw rfl m__law_draw k__law_draw b__law_draw .nil pass0 (pa_cons (pv 0) (pa_cons pe_int pa_nil))) (fun _ _ => rfl)))))
      (pss_one (ps_set (i := 3) sc__law_lowered.nd rfl (Or.inl rfl) (pe_op op_cat (pe_lst (pa_cons (pe_callTy (T := "tuple") call_tuple_of (by rfl) T.b_tuple (by decide +kernel) (pa_cons (pe_lc (own := [("item", 5)]) (g := gName 5) rfl sc__law_lowered.nd (pi_tup (pv 4)) (blkOk_by (own := [("item", 5)]) (N := ["dice", "heights", "lower", "changed", "items", "item"]) (sc := defScope s__law_lowered) (by decide +kernel)) (fun _ _ _ _ _ => (pg_name (i := 5) sc__law_lowered.nd rfl (Or.inl rfl))) (fun _ _ _ _ _ => pts_nil) (fun _ _ _ _ _ => (pe_op op_sub (pv 5) (pv 2)))) pa_nil)) pa_nil)) (pv 3))))))
      (pss_one (ps_ret (pv 3)))))), ?_⟩
    refine ⟨(by show 0 ≤ sizeLine; decide), fun B nB => ?_⟩
    have s1 : Same H (upd H B (.lst [])) := same_new nB
    have htF : ∀ (H' : Hp), Keep d H H' → ∀ (j : Nat) (t : V), ts[j]? = some t → ∃ (b : Addr) (ks : List Int), t = V.ref b ∧ H' b = some (.tup (ks.map V.int)) ∧ (ks.length : Int) = n := by
      intro H' kk j t ht
      obtain ⟨ks, _, ⟨b, rfl, hb⟩, hk2⟩ := prd_at1 e2 ht
      exact ⟨b, ks, rfl, kk.tup D hb, hk2⟩
    refine ⟨_, rfl, R, ts, rfl, .inl ⟨SqL.of (s1 _ _ e1), ?_⟩⟩
    refine for_it walk_rev (fun i σ' H3 => ∃ (lo : Int) (B : Addr) (us : List V) (gs : List (List Int)) (o4 : Option V), σ' = [some (.ref d), some (.ref R), some (.int lo), some (.ref B), o4, none] ∧ H3 B = some (.lst us) ∧ Paired (fun z ks => IntT H3 z ks ∧ (ks.length : Int) = n) us gs ∧ us.length = i ∧ H B = none ∧ Keep d H H3 ∧ Dice c H3 d)
      ⟨0, B, [], [], none, rfl, upd_same, .nil, rfl, nB, same_keep s1, D.same s1⟩ (fun i σ' H3 _ ⟨_, _, _, _, _, _, _, _, _, _, q, _⟩ => SqL.of (q _ _ nRd e1)) ?_ ?_
    · rintro i x σ' H3 H3' hi ⟨lo, B, us, gs, o4, rfl, f1, f2, f3, nB', k3, D3⟩ ⟨rfl, hx⟩
      obtain ⟨b, ks, rfl, hb, hkl⟩ := htF _ k3 _ _ hx
      refine ⟨_, rfl, _, rfl, ?_⟩
      refine ⟨d, c, _, rfl, D3, by omega, by omega, fun v H4 v0 v1 k4 D4 => ?_⟩
      have nBd : B ≠ d := (D.ne nB')
      have f1' := k4 _ _ nBd f1
      walk_at "rr"
      intro T nT
      walk_at "rr"
      have nTd : T ≠ d := D4.ne nT
      have k5 : Keep d H (upd H4 T (.lst [.int 1, .int (10 ^ 19)])) := (k3.trans k4).trans (same_keep (same_new nT))
      have hT : (upd H4 T (.lst [.int 1, .int (10 ^ 19)])) T = some (.lst [.int 1, .int (10 ^ 19)]) := upd_same
      have hB5 : (upd H4 T (.lst [.int 1, .int (10 ^ 19)])) B = _ := (upd_ne (ne_of_none f1' nT)).trans f1'
      refine ⟨d, c, _, rfl, D4.upd nTd (D4.nc nT), by omega, by omega, fun v2 H6 w0 w1 k6 D6 => ?_⟩
      obtain ⟨y, hy⟩ : ∃ y : Int, [V.int 1, V.int (10 ^ 19)][v2.toNat]? = some (.int y) := by
        rcases (by omega : v2.toNat = 0 ∨ v2.toNat = 1) with e | e <;> rw [e] <;> exact ⟨_, rfl⟩
      refine ⟨T, _, v2, .int y, rfl, rfl, SqL.of (k6 _ _ nTd hT), ?_, ?_⟩
      · have := atI_nat hy
        rwa [Int.toNat_of_nonneg w0] at this
      refine ⟨_, _, rfl, rfl, .inl ⟨by omega, by omega⟩, _, _, rfl, rfl, ?_⟩
      have k7 := k5.trans k6
      have hB6 := k6 _ _ nBd hB5
      obtain ⟨ks', hks, hb6, hkl'⟩ : ∃ ks' : List Int, ks' = ks ∧ H6 b = some (.tup (ks'.map V.int)) ∧ (ks'.length : Int) = n := by
        refine ⟨ks, rfl, ?_, hkl⟩
        have : Keep d H3' H6 := k4.trans (Keep.trans (same_keep (same_new nT)) k6)
        exact this.tup D3 hb
      have hp6 : Paired (fun z ks => IntT H6 z ks ∧ (ks.length : Int) = n) us gs := prd_imp f2 fun x y r => ⟨IntT.firm _ _ _ _ (keep_tups (k4.trans (Keep.trans (same_keep (same_new nT)) k6)) D3) r.1, r.2⟩
      refine ⟨_, rfl, b, rfl, ⟨_, SqT.of hb6⟩, fun C nC => ?_⟩
      refine lc_tup (K := K) (a := b) (xs := ks'.map V.int) (fun j H7 => ∃ cs : List Int, H7 C = some (.lst (cs.map V.int)) ∧ cs.length = j ∧ Same H6 H7) ⟨[], upd_same, rfl, same_new nC⟩ (fun j H7 _ ⟨_, _, _, g⟩ => SqT.of (g _ _ hb6)) ?_ ?_
      · rintro j x H7 hj ⟨cs, g1, g2, g3⟩
        obtain ⟨z, hz, rfl⟩ := map_at hj
        have hjl := (List.getElem?_eq_some_iff.mp hz).1
        refine ⟨rfl, ?_⟩
        refine yesT ?_
        refine ⟨_, rfl, _, rfl, _, _, rfl, rfl, ?_⟩
        refine ⟨_, g1, ?_, cs ++ [z - (lo + v * y)], ?_, ?_, same_upd g3 nC⟩
        · rw [List.length_map, g2]; exact small1000 (by omega)
        · rw [upd_same, List.map_append]; rfl
        · rw [List.length_append, g2]; rfl
      · rintro H7 ⟨cs, g1, g2, g3⟩
        refine ⟨C, _, rfl, .inl ⟨SqL.of g1, fun t1 nt1 => ?_⟩⟩
        refine ⟨(by show 1 ≤ sizeLine; decide), fun R1 nR1 => ?_⟩
        have s7 : Same H6 (upd (upd H7 t1 (.tup (cs.map V.int))) R1 (.lst [.ref t1])) := (g3.trans (same_new nt1)).trans (same_new nR1)
        have ht1 : (upd (upd H7 t1 (.tup (cs.map V.int))) R1 (.lst [.ref t1])) t1 = some (.tup (cs.map V.int)) := by
          have : t1 ≠ R1 := by intro z; subst z; rw [upd_same] at nR1; cases nR1
          rw [upd_ne this, upd_same]
        refine ⟨_, rfl, R1, B, _, _, rfl, rfl, upd_same, s7 _ _ hB6, Nat.le_of_lt (small1000 (by simp; omega)), fun R2 nR2 => ?_⟩
        have s8 := s7.trans (same_new (o := .lst ([.ref t1] ++ us)) nR2)
        have k9 : Keep d H (upd (upd (upd H7 t1 (.tup (cs.map V.int))) R1 (.lst [.ref t1])) R2 (.lst ([.ref t1] ++ us))) := k7.trans (same_keep s8)
        refine ⟨lo + v * y, R2, .ref t1 :: us, cs :: gs, _, rfl, upd_same, .cons ⟨⟨t1, rfl, (same_new nR2) _ _ ht1⟩, ?_⟩ (prd_imp hp6 fun x y r => ⟨IntT.firm _ _ _ _ (same_tups s8) r.1, r.2⟩), by rw [List.length_cons, f3], ?_, k9, D6.same s8⟩
        · rw [g2, List.length_map]; exact hkl'
        · refine k7.free (D6.ne (same_none s7 nR2)) (same_none s7 nR2)
    · rintro σ' H3 ⟨lo, B, us, gs, o4, rfl, f1, f2, f3, nB', k3, D3⟩
      exact ⟨_, rfl, k B H3 k3 D3 nB' ⟨us, gs, f1, f2, by rw [f3]; exact e3⟩⟩
end
end Toy

namespace Toy
open PySem PySem.Spec PyProof.Rows L2
local macro_rules | `(tactic| walk_at "hp") => `(tactic| first
  | assumption
  | exact upd_same
  | (refine Eq.trans (upd_ne (by first | assumption | (apply Ne.symm; assumption))) ?_; walk_at "hp"))
local macro_rules | `(tactic| walk_at "side") => `(tactic| first
  | exact .inl ⟨by omega, by omega⟩
  | exact .inr ⟨by omega, by omega⟩
  | exact ⟨by omega, by omega⟩
  | (show _ ≤ _; omega)
  | (show (_ : Int) < _; omega)
  | decide
  | assumption)
local macro_rules | `(tactic| walk_at "r") => `(tactic| first
  | refine ⟨_, rfl, ?_⟩
  | refine ⟨_, _, rfl, rfl, ?_⟩
  | refine ⟨_, _, _, _, rfl, rfl, SqL.of (by walk_at "hp"), rfl, ?_⟩
  | refine ⟨_, _, _, _, rfl, rfl, SqT.of (by walk_at "hp"), rfl, ?_⟩
  | refine ⟨_, _, _, _, rfl, rfl, (by walk_at "hp"), rfl, ?_⟩
  | refine And.intro rfl ?_
  | refine ⟨_, _, rfl, SqT.of (by walk_at "hp"), ?_⟩
  | refine ⟨_, _, rfl, SqL.of (by walk_at "hp"), ?_⟩
  | refine .inl ⟨_, rfl, ?_⟩
  | refine ⟨_, _, rfl, .inl (SqL.of (by walk_at "hp")), ?_⟩
  | refine ⟨_, _, rfl, .inr (SqT.of (by walk_at "hp")), ?_⟩
  | refine ⟨_, _, rfl, .inl ⟨SqL.of (by walk_at "hp"), ?_⟩⟩
  | refine And.intro (.inl ⟨rfl, _, SqL.of (by walk_at "hp")⟩) ?_
  | refine ⟨_, _, _, rfl, rfl, (by walk_at "hp"), ?_⟩
  | refine ⟨_, _, rfl, (by walk_at "hp"), ?_⟩
  | refine And.intro (by walk_at "side") ?_)
local macro_rules | `(tactic| walk_at "rr") => `(tactic| (repeat walk_at "r"))
local macro_rules | `(tactic| walk_at "k") => `(tactic| first
  | refine ite2 (fun _ => ?_) (fun g => absurd rfl g)
  | refine ite2 (fun g => absurd g (by decide)) (fun _ => ?_)
  | refine ite2 (fun _ => ?_) (fun g => absurd (decide_eq_true (by omega)) g)
  | refine ite2 (fun g => absurd (of_decide_eq_true g) (by omega)) (fun _ => ?_)
  | refine ite2 (fun g => (nd_t g (by omega)).elim) (fun _ => ?_)
  | refine ite2 (fun _ => ?_) (fun g => absurd (nd_f g) (by omega)))
local macro_rules | `(tactic| walk_at "rk") => `(tactic| (repeat (first | walk_at "r" | walk_at "k")))
local macro_rules | `(tactic| walk_at "no") => `(tactic| (refine ⟨_, rfl, rfl, _, rfl, ?_⟩; refine ite2 (fun g => absurd g (by decide)) (fun _ => ?_)))
local macro_rules | `(tactic| walk_at "yes") => `(tactic| (refine ⟨_, rfl, rfl, _, rfl, ?_⟩; refine ite2 (fun _ => ?_) (fun g => absurd rfl g)))
def spSpoiled : Sp := fun vs H Q _ => ∃ (d c R : Addr) (n : Int) (m : Nat), vs = [.ref d, .ref R] ∧ Dice c H d ∧ R ≠ d ∧ HtsAt H R n m ∧ 1 ≤ m ∧ m ≤ 901 ∧ 1 ≤ n ∧ n ≤ 6 ∧
  ∀ v H', Dat (fun a => a ≠ d) H' v → Keep d H H' → Dice c H' d → Q v H'
theorem ixN_nat {n k : Nat} (h : k < n) : ixN n ((k : Nat) : Int) = some k := by
  unfold ixN
  rw [if_pos (by omega), if_pos (by omega)]
  rfl
theorem Dat.intT {A : Addr → Prop} {H : Hp} {v : V} {ks : List Int} (h : IntT H v ks) (hA : ∀ a, v = .ref a → A a) : Dat A H v := by
  obtain ⟨a, rfl, ha⟩ := h
  refine .tup a _ (hA a rfl) ha fun x hx => ?_
  obtain ⟨i, _, rfl⟩ := List.mem_map.mp hx
  exact .int i
theorem dat_set {d W : Addr} {H : Hp} {ts : List V} {X : V} {j : Nat} (nW : W ≠ d) (hts : ∀ t ∈ ts, Dat (fun a => a ≠ d ∧ a ≠ W) H t) (hx : Dat (fun a => a ≠ d ∧ a ≠ W) H X) : Dat (fun a => a ≠ d) (upd H W (.lst (ts.set j X))) (.ref W) := by
  refine .lst W _ nW upd_same fun x hx' => ?_
  have hk : ∀ {y : V}, Dat (fun a => a ≠ d ∧ a ≠ W) H y → Dat (fun a => a ≠ d) (upd H W (.lst (ts.set j X))) y := fun h => h.mono (fun a o ha e => (upd_ne ha.2).trans e) fun a ha _ => ha.1
  rcases List.mem_or_eq_of_mem_set hx' with h | h
  · exact hk (hts x h)
  · rw [h]; exact hk hx
theorem cut_mem {xs : List V} {lo hi : Option Int} {x : V} (h : x ∈ cutV xs lo hi) : x ∈ xs := List.mem_of_mem_drop (List.mem_of_mem_take h)
structure StI (d c W I : Addr) (ts : List V) (m : Nat) (H0 H : Hp) (xs : List V) : Prop where
  it : H I = some (.lst xs)
  len : xs.length = m
  wh : H W = some (.lst ts)
  xd : ∀ x ∈ xs, Dat (fun a => a ≠ d ∧ a ≠ W ∧ a ≠ I) H x
  td : ∀ t ∈ ts, Dat (fun a => a ≠ d ∧ a ≠ W ∧ a ≠ I) H t
  kp : Keep d H0 H
  di : Dice c H d
theorem StI.set {d c W I : Addr} {ts xs : List V} {m : Nat} {H0 H : Hp} (s : StI d c W I ts m H0 H xs) (nIW : I ≠ W) (nId : I ≠ d) (nIc : I ≠ c) (n0 : H0 I = none) {x : V} (hx : Dat (fun a => a ≠ d ∧ a ≠ W ∧ a ≠ I) H x) (j : Nat) : StI d c W I ts m H0 (upd H I (.lst (xs.set j x))) (xs.set j x) := by
  have hk : ∀ {y : V}, Dat (fun a => a ≠ d ∧ a ≠ W ∧ a ≠ I) H y → Dat (fun a => a ≠ d ∧ a ≠ W ∧ a ≠ I) (upd H I (.lst (xs.set j x))) y := fun h => h.mono (fun a o ha e => (upd_ne ha.2.2).trans e) fun a ha _ => ha
  refine ⟨upd_same, by rw [List.length_set]; exact s.len, (upd_ne nIW.symm).trans s.wh, fun y hy => ?_, fun t ht => hk (s.td t ht), s.kp.mut n0, s.di.upd nId nIc⟩
  rcases List.mem_or_eq_of_mem_set hy with h | h
  · exact hk (s.xd y h)
  · rw [h]; exact hk hx
theorem StI.keep {d c W I : Addr} {ts xs : List V} {m : Nat} {H0 H H' : Hp} (s : StI d c W I ts m H0 H xs) (k : Keep d H H') (D : Dice c H' d) (nId : I ≠ d) (nWd : W ≠ d) : StI d c W I ts m H0 H' xs :=
  ⟨k _ _ nId s.it, s.len, k _ _ nWd s.wh, fun x hx => (s.xd x hx).mono (fun a o ha e => k _ _ ha.1 e) fun _ h _ => h, fun x hx => (s.td x hx).mono (fun a o ha e => k _ _ ha.1 e) fun _ h _ => h, s.kp.trans k, D⟩
section
variable {P : Program} {w : World} {K : PySem.W.Frag} {mg : Str → Option Value} {base : Heap}
theorem ok__law_spoiled (T : Top K mg) : Ok P w K mg base 3 "_law_spoiled" ["dice", "heights"] spSpoiled := by
  refine ok_of T.d__law_spoiled sc__law_spoiled (fun vs H Q E h => ?_) (fun f cdv A outer s H vs Q E hr h => ?_)
  · obtain ⟨d, c, R, n, m, rfl, _⟩ := h
    rfl
  · obtain ⟨d, c, R, n, m, rfl, D, nRd, ⟨ts, hs, e1, e2, e3⟩, m1, m9, n1, n6, k⟩ := h
    obtain ⟨f__law_draw, fd__law_draw, m__law_draw, k__law_draw, b__law_draw, G__law_draw⟩ := ok__law_draw (P := P) (w := w) (base := base) T
    have hr__law_draw : Room 1 _ := hr.mono (by decide)
    obtain ⟨f__law_odd, fd__law_odd, m__law_odd, k__law_odd, b__law_odd, G__law_odd⟩ := ok__law_odd (P := P) (w := w) (base := base) T
    have hr__law_odd : Room 2 _ := hr.mono (by decide)
    refine ⟨_, (pss_cons (ps_set (i := 2) sc__law_spoiled.nd rfl (Or.inl rfl) (pe_call G__law_draw hr__law_draw rfl m__law_draw k__law_draw b__law_draw .nil pass0 (pa_cons (pv 0) (pa_cons pe_int pa_nil))))
      (pss_cons (ps_set (i := 3) sc__law_spoiled.nd rfl (Or.inl rfl) (pe_call G__law_draw hr__law_draw rfl m__law_draw k__law_draw b__law_draw .nil pass0 (pa_cons (pv 0) (pa_cons (pe_callB (id := "len") call_len_seq (by rfl) T.b_len (by decide +kernel) (pa_cons (pv 1) pa_nil)) pa_nil))))
      (pss_cons (ps_set (i := 4) sc__law_spoiled.nd rfl (Or.inl rfl) (pe_call G__law_draw hr__law_draw rfl m__law_draw k__law_draw b__law_draw .nil pass0 (pa_cons (pv 0) (pa_cons (pe_callB (id := "len") call_len_seq (by rfl) T.b_len (by decide +kernel) (pa_cons (pe_ix ix_list (pv 1) (pv 3) (fun _ _ => rfl)) pa_nil)) pa_nil))))
      (pss_cons (ps_set (i := 5) sc__law_spoiled.nd rfl (Or.inl rfl) (pe_callTy (T := "list") call_list_of (by rfl) T.b_list (by decide +kernel) (pa_cons (pv 1) pa_nil)))
      (pss_cons (ps_set (i := 6) sc__law_spoiled.nd rfl (Or.inl rfl) (pe_callTy (T := "list") call_list_of (by rfl) T.b_list (by decide +kernel) (pa_cons (pe_ix ix_list (pv 1) (pv 3) (fun _ _ => rfl)) pa_nil)))
      (pss_cons (ps_if (pt_cmpR op_eq (pv 2) pe_int (nomark _))
      (pss_one (ps_ret (pe_call G__law_odd hr__law_odd rfl m__law_odd k__law_odd b__law_odd .nil pass0 (pa_cons (pv 0) pa_nil))))
      pss_nil)
      (pss_cons (ps_if (pt_cmpR op_eq (pv 2) pe_int (nomark _))
      (pss_one (ps_asg (pv 6) (pg_sub (pv 5) (pv 3) set_list)))
      (pss_one (ps_if (pt_cmpR op_eq (pv 2) pe_int (nomark _))
      (pss_one (ps_set (i := 5) sc__law_spoiled.nd rfl (Or.inl rfl) (pe_op op_cat (pe_slice sl_list (pv 5) po_none (po_some (pv 3))) (pe_slice sl_list (pv 5) (po_some (pe_op op_add (pv 3) pe_int)) po_none))))
      (pss_one (ps_if (pt_cmpR op_eq (pv 2) pe_int (nomark _))
      (pss_one (ps_set (i := 5) sc__law_spoiled.nd rfl (Or.inl rfl) (pe_op op_cat (pe_op op_cat (pe_slice sl_list (pv 5) po_none (po_some (pv 3))) (pe_lst (pa_cons (pe_ix ix_list (pv 1) (pv 3) (fun _ _ => rfl)) pa_nil))) (pe_slice sl_list (pv 5) (po_some (pv 3)) po_none))))
      (pss_one (ps_if (pt_cmpR op_eq (pv 2) pe_int (nomark _))
      (pss_one (ps_asg (pe_call G__law_odd hr__law_odd rfl m__law_odd k__law_odd b__law_odd .nil pass0 (pa_cons (pv 0) pa_nil)) (pg_sub (pv 5) (pv 3) set_list)))
      (pss_cons (ps_asg (pe_op op_add (pe_ix ix_list (pv 6) (pv 4) (fun _ _ => rfl)) pe_int) (pg_sub (pv 6) (pv 4) set_list))
      (pss_cons (ps_if (pt_cmpR op_eq (pv 2) pe_int (nomark _))
      (pss_one (ps_asg (pe_op op_sub (pe_ix ix_list (pv 6) (pv 4) (fun _ _ => rfl)) pe_int) (pg_sub (pv 6) (pv 4) set_list)))
      pss_nil)
      (pss_cons (ps_if (pt_cmpR op_eq (pv 2) pe_int (nomark _))
      (pss_one (ps_asg (pe_call G__law_odd hr__law_odd rfl m__law_odd k__law_odd b__law_odd .nil pass0 (pa_cons (pv 0) pa_nil)) (pg_sub (pv 6) (pv 4) set_list)))
      pss_nil)
      (pss_cons (ps_if (pt_cmpR op_eq (pv 2) pe_int (nomark _))
      (pss_one (ps_asg (pe_ix ix_list (pe_lst (pa_cons pe_bl (pa_cons pe_bl pa_nil))) (pe_call G__law_draw hr__law_draw rfl m__law_draw k__law_draw b__law_draw .nil pass0 (pa_cons (pv 0) (pa_cons pe_int pa_nil))) (fun _ _ => rfl)) (pg_sub (pv 6) (pv 4) set_list)))
      pss_nil)
      (pss_cons (ps_if (pt_cmpR op_eq (pv 2) pe_int (nomark _))
      (pss_one (ps_set (i := 6) sc__law_spoiled.nd rfl (Or.inl rfl) (pe_slice sl_list (pv 6) po_none (po_some (pv 4)))))
      pss_nil)
      (pss_cons (ps_if (pt_cmpR op_eq (pv 2) pe_int (nomark _))
      (pss_one (ps_asg (pe_op op_add (pe_ix ix_list (pv 6) (pv 4) (fun _ _ => rfl)) (pe_op op_pow pe_int pe_int)) (pg_sub (pv 6) (pv 4) set_list)))
      pss_nil)
      (pss_one (ps_asg (pe_callTy (T := "tuple") call_tuple_of (by rfl) T.b_tuple (by decide +kernel) (pa_cons (pv 6) pa_nil)) (pg_sub (pv 5) (pv 3) set_list))))))))))))))))
      (pss_one (ps_ret (pv 5)))))))))), ?_⟩
    walk_at "rr"
    refine ⟨d, c, _, rfl, D, by omega, by omega, fun v0 H1 a0 a1 k1 D1 => ?_⟩
    have R1 := k1 _ _ nRd e1
    walk_at "rr"
    refine ⟨d, c, _, rfl, D1, by omega, by omega, fun v1 H2 b0 b1 k2 D2 => ?_⟩
    have R2 := k2 _ _ nRd R1
    obtain ⟨at', rfl⟩ : ∃ j : Nat, v1 = j := ⟨v1.toNat, by omega⟩
    obtain ⟨t, ht⟩ : ∃ t, ts[at']? = some t := ⟨_, List.getElem?_eq_getElem (by omega)⟩
    obtain ⟨ks, hks, ⟨b, rfl, hb⟩, hkl⟩ := prd_at1 e2 ht
    have hb2 := (k1.trans k2).tup D hb
    refine ⟨_, rfl, _, rfl, _, rfl, R, _, (at' : Nat), .ref b, rfl, rfl, SqL.of R2, atI_nat ht, b, _, rfl, .inr (SqT.of hb2), ?_⟩
    refine ⟨d, c, _, rfl, D2, by rw [List.length_map]; omega, by rw [List.length_map]; omega, fun v2 H3 c0 c1 k3 D3 => ?_⟩
    rw [List.length_map] at c1
    obtain ⟨wh, rfl⟩ : ∃ j : Nat, v2 = j := ⟨v2.toNat, by omega⟩
    have k03 := (k1.trans k2).trans k3
    have R3 := k3 _ _ nRd R2
    have hb3 := k3.tup D2 hb2
    refine ⟨_, rfl, R, ts, rfl, .inl (SqL.of R3), fun W nW => ?_⟩
    have nWd := D3.ne nW
    have hb4 : (upd H3 W (.lst ts)) b = _ := (upd_ne (ne_of_none hb3 nW)).trans hb3
    refine ⟨_, rfl, _, rfl, R, _, (at' : Nat), .ref b, rfl, rfl, SqL.of ((upd_ne (ne_of_none R3 nW)).trans R3), atI_nat ht, b, _, rfl, .inr (SqT.of hb4), fun I nI => ?_⟩
    have nIW : I ≠ W := by intro z; subst z; rw [upd_same] at nI; cases nI
    have nI3 : H3 I = none := by rw [upd_ne nIW] at nI; exact nI
    have nId := D3.ne nI3
    have s5 : Same H3 (upd (upd H3 W (.lst ts)) I (.lst (ks.map V.int))) := (same_new nW).trans (same_new nI)
    have hW : (upd (upd H3 W (.lst ts)) I (.lst (ks.map V.int))) W = some (.lst ts) := (upd_ne nIW.symm).trans upd_same
    have hI : (upd (upd H3 W (.lst ts)) I (.lst (ks.map V.int))) I = some (.lst (ks.map V.int)) := upd_same
    generalize upd (upd H3 W (.lst ts)) I (.lst (ks.map V.int)) = H5 at *
    have k05 : Keep d H H5 := k03.trans (same_keep s5)
    have D5 : Dice c H5 d := D3.same s5
    have hT : ∀ t ∈ ts, Dat (fun a => a ≠ d ∧ a ≠ W ∧ a ≠ I) H5 t := by
      intro t' ht'
      obtain ⟨j, hj⟩ := List.getElem?_of_mem ht'
      obtain ⟨ks', _, hk', _⟩ := prd_at1 e2 hj
      refine Dat.intT (IntT.firm _ _ _ _ (fun a xs q => s5 _ _ (k03.tup D q)) hk') fun a e => ?_
      subst e
      obtain ⟨a', e, ha'⟩ := hk'
      cases e
      have ha3 := k03.tup D ha'
      exact ⟨D.tup ha', ne_of_none ha3 nW, ne_of_none ha3 nI3⟩
    have hT1 : ∀ t ∈ ts, Dat (fun a => a ≠ d ∧ a ≠ W) H5 t := fun t' ht' => (hT t' ht').mono (fun _ _ _ e => e) fun a ha _ => ⟨ha.1, ha.2.1⟩
    have hkv : (ks.map V.int)[wh]? = some (.int (ks.getD wh 0)) := by rw [List.getElem?_map, getDat 0 (by omega)]; rfl
    have hixW : ixN ts.length ((at' : Nat) : Int) = some at' := ixN_nat (by omega)
    have hin0 : ∀ {A : Addr → Prop} {H' : Hp}, ∀ x ∈ ks.map V.int, Dat A H' x := by
      intro A H' x hx
      obtain ⟨i, _, rfl⟩ := List.mem_map.mp hx
      exact .int i
    have nWH : H W = none := k03.free nWd nW
    have nIH : H I = none := k03.free nId nI3
    have nWc := D3.nc nW
    have nIc := D3.nc nI3
    have hfin : ∀ (H' : Hp) (xs : List V), H' W = some (.lst ts) → (∀ x ∈ xs, Dat (fun a => a ≠ d ∧ a ≠ W) H' x) → (∀ t ∈ ts, Dat (fun a => a ≠ d ∧ a ≠ W) H' t) → Keep d H H' → Dice c H' d → ∀ T, H' T = none → Q (.ref W) (upd (upd H' T (.tup xs)) W (.lst (ts.set at' (.ref T)))) := by
      intro H' xs hW' hx ht' k' D' T nT
      have s := same_new (o := .tup xs) nT
      refine k _ _ (dat_set nWd (fun t' q => (ht' t' q).same s) (.tup T xs ⟨D'.ne nT, fun z => ?_⟩ upd_same fun x q => (hx x q).same s)) ((k'.trans (same_keep s)).mut nWH) ((D'.same s).upd nWd nWc)
      subst z; rw [hW'] at nT; cases nT
    have hv : v0 = 0 ∨ v0 = 1 ∨ v0 = 2 ∨ v0 = 3 ∨ v0 = 4 ∨ v0 = 5 ∨ v0 = 6 ∨ v0 = 7 ∨ v0 = 8 ∨ v0 = 9 := by omega
    refine ⟨_, rfl, rfl, _, rfl, ?_⟩
    rcases hv with rfl | rfl | rfl | rfl | rfl | rfl | rfl | rfl | rfl | rfl
    · walk_at "k"
      refine ⟨_, rfl, d, c, rfl, D5, fun v H6 hv k6 D6 => ?_⟩
      exact k v H6 (hv.mono (fun _ _ _ e => e) fun a ha _ => D5.ne ha) (k05.trans k6) D6
    all_goals walk_at "rk"
    · refine ⟨W, ts, _, at', rfl, rfl, hW, hixW, _, rfl, ?_⟩
      exact k _ _ (dat_set nWd hT1 (.lst I _ ⟨nId, nIW⟩ hI hin0)) (k05.mut nWH) (D5.upd nWd nWc)
    · intro p1 n1'
      have hW1 : (upd H5 p1 (.lst (cutV ts none (some (at' : Nat))))) W = some (.lst ts) := (upd_ne (ne_of_none hW n1')).trans hW
      walk_at "rr"
      intro p2 n2'
      have f1 : (upd (upd H5 p1 (.lst (cutV ts none (some (at' : Nat))))) p2 (.lst (cutV ts (some ((at' : Nat) + 1)) none))) p1 = some (.lst (cutV ts none (some (at' : Nat)))) := by
        have : p1 ≠ p2 := by intro z; subst z; rw [upd_same] at n2'; cases n2'
        rw [upd_ne this, upd_same]
      have s7 : Same H5 (upd (upd H5 p1 (.lst (cutV ts none (some (at' : Nat))))) p2 (.lst (cutV ts (some ((at' : Nat) + 1)) none))) := (same_new n1').trans (same_new n2')
      refine ⟨p1, p2, _, _, rfl, rfl, f1, upd_same, ?_, fun p3 n3' => ?_⟩
      · have h1 := cutV_length ts none (some (at' : Nat))
        have h2 := cutV_length ts (some ((at' : Nat) + 1)) none
        exact Nat.le_trans (m := 1802) (by omega) (by decide)
      have s8 := s7.trans (same_new (o := .lst (cutV ts none (some (at' : Nat)) ++ cutV ts (some ((at' : Nat) + 1)) none)) n3')
      refine ⟨_, rfl, k _ _ (.lst p3 _ ((D5.same s7).ne n3') upd_same fun x hx => ?_) (k05.trans (same_keep s8)) (D5.same s8)⟩
      have hx' : x ∈ ts := by
        rcases List.mem_append.mp hx with h | h <;> exact cut_mem h
      exact ((hT x hx').same s8).mono (fun _ _ _ e => e) fun a ha _ => ha.1
    · intro p1 n1'
      have hW1 : (upd H5 p1 (.lst (cutV ts none (some (at' : Nat))))) W = some (.lst ts) := (upd_ne (ne_of_none hW n1')).trans hW
      have R6 : (upd H5 p1 (.lst (cutV ts none (some (at' : Nat))))) R = some (.lst ts) := (same_new n1') _ _ (s5 _ _ R3)
      refine ⟨_, rfl, _, rfl, R, _, (at' : Nat), .ref b, rfl, rfl, SqL.of R6, atI_nat ht, (by show 1 ≤ sizeLine; decide), fun p2 n2' => ?_⟩
      have f1 : (upd (upd H5 p1 (.lst (cutV ts none (some (at' : Nat))))) p2 (.lst [.ref b])) p1 = some (.lst (cutV ts none (some (at' : Nat)))) := by
        have : p1 ≠ p2 := by intro z; subst z; rw [upd_same] at n2'; cases n2'
        rw [upd_ne this, upd_same]
      refine ⟨p1, p2, _, _, rfl, rfl, f1, upd_same, ?_, fun p3 n3' => ?_⟩
      · have h1 := cutV_length ts none (some (at' : Nat))
        exact Nat.le_trans (m := 1802) (by simp; omega) (by decide)
      have s7 : Same H5 (upd (upd (upd H5 p1 (.lst (cutV ts none (some (at' : Nat))))) p2 (.lst [.ref b])) p3 (.lst (cutV ts none (some (at' : Nat)) ++ [.ref b]))) := ((same_new n1').trans (same_new n2')).trans (same_new n3')
      have f3 : (upd (upd (upd H5 p1 (.lst (cutV ts none (some (at' : Nat))))) p2 (.lst [.ref b])) p3 (.lst (cutV ts none (some (at' : Nat)) ++ [.ref b]))) p3 = some (.lst (cutV ts none (some (at' : Nat)) ++ [.ref b])) := upd_same
      generalize upd (upd (upd H5 p1 (.lst (cutV ts none (some (at' : Nat))))) p2 (.lst [.ref b])) p3 (.lst (cutV ts none (some (at' : Nat)) ++ [.ref b])) = H6 at *
      have hW6 := s7 _ _ hW
      walk_at "rr"
      intro p4 n4'
      have np34 : p3 ≠ p4 := ne_of_none f3 n4'
      refine ⟨p3, p4, _, _, rfl, rfl, (upd_ne np34).trans f3, upd_same, ?_, fun p5 n5' => ?_⟩
      · have h1 := cutV_length ts none (some (at' : Nat))
        have h2 := cutV_length ts (some (at' : Nat)) none
        exact Nat.le_trans (m := 1804) (by simp; omega) (by decide)
      have s8 := s7.trans ((same_new (o := .lst (cutV ts (some (at' : Nat)) none)) n4').trans (same_new (o := .lst ((cutV ts none (some (at' : Nat)) ++ [.ref b]) ++ cutV ts (some (at' : Nat)) none)) n5'))
      refine ⟨_, rfl, k _ _ (.lst p5 _ ((D5.same (s7.trans (same_new n4'))).ne n5') upd_same fun x hx => ?_) (k05.trans (same_keep s8)) (D5.same s8)⟩
      have hx' : x ∈ ts := by
        rcases List.mem_append.mp hx with h | h
        · rcases List.mem_append.mp h with h | h
          · exact cut_mem h
          · rw [List.mem_singleton.mp h]; exact List.mem_of_getElem? ht
        · exact cut_mem h
      exact ((hT x hx').same s8).mono (fun _ _ _ e => e) fun a ha _ => ha.1
    · intro v H6 hv k6 D6
      have hW6 := k6 _ _ nWd hW
      refine ⟨_, rfl, _, rfl, W, ts, _, at', rfl, rfl, hW6, hixW, _, rfl, ?_⟩
      refine k _ _ (dat_set nWd (fun t' q => (hT1 t' q).mono (fun a o ha e => k6 _ _ ha.1 e) fun a ha _ => ha) (hv.mono (fun _ _ _ e => e) fun a ha _ => ⟨D5.ne ha, fun z => ?_⟩)) ((k05.trans k6).mut nWH) (D6.upd nWd nWc)
      subst z; rw [hW] at ha; cases ha
    all_goals
      have S5 : StI d c W I ts ks.length H H5 (ks.map V.int) := ⟨hI, by rw [List.length_map], hW, hin0, hT, k05, D5⟩
      have ixI : ∀ {xs : List V}, xs.length = ks.length → ixN xs.length ((wh : Nat) : Int) = some wh := fun e => ixN_nat (by omega)
      have S6 := S5.set nIW nId nIc nIH (x := .int (ks.getD wh 0 + 1)) (.int _) wh
      have hq : ((ks.map V.int).set wh (.int (ks.getD wh 0 + 1)))[wh]? = some (.int (ks.getD wh 0 + 1)) := by rw [List.getElem?_set_self (by rw [List.length_map]; omega)]
      refine ⟨I, _, (wh : Nat), .int (ks.getD wh 0), rfl, rfl, SqL.of hI, atI_nat hkv, ?_⟩
      refine ⟨_, _, rfl, rfl, _, rfl, _, rfl, I, _, _, wh, rfl, rfl, hI, ixI (by rw [List.length_map]), ?_⟩
      generalize upd H5 I (.lst ((ks.map V.int).set wh (.int (ks.getD wh 0 + 1)))) = H6 at *
      generalize (ks.map V.int).set wh (.int (ks.getD wh 0 + 1)) = xs6 at *
    · walk_at "yes"
      refine ⟨_, rfl, _, rfl, I, _, (wh : Nat), .int (ks.getD wh 0 + 1), rfl, rfl, SqL.of S6.it, atI_nat hq, _, _, rfl, rfl, _, rfl, _, rfl, I, _, _, wh, rfl, rfl, S6.it, ixI S6.len, ?_⟩
      have S7 := S6.set nIW nId nIc nIH (x := .int (ks.getD wh 0 + 1 - 2)) (.int _) wh
      walk_at "no"
      walk_at "no"
      walk_at "no"
      walk_at "no"
      refine ⟨_, rfl, I, _, rfl, .inl ⟨SqL.of S7.it, fun T nT => ?_⟩⟩
      refine ⟨_, rfl, _, rfl, W, ts, _, at', rfl, rfl, (upd_ne (ne_of_none S7.wh nT)).trans S7.wh, hixW, _, rfl, ?_⟩
      exact hfin _ _ S7.wh (fun x q => (S7.xd x q).mono (fun _ _ _ e => e) fun a ha _ => ⟨ha.1, ha.2.1⟩) (fun x q => (S7.td x q).mono (fun _ _ _ e => e) fun a ha _ => ⟨ha.1, ha.2.1⟩) S7.kp S7.di T nT
    · walk_at "no"
      walk_at "yes"
      refine ⟨_, rfl, d, c, rfl, S6.di, fun v H7 hv k7 D7 => ?_⟩
      have S6' := S6.keep k7 D7 nId nWd
      refine ⟨_, rfl, _, rfl, I, _, _, wh, rfl, rfl, S6'.it, ixI S6'.len, ?_⟩
      have S7 := S6'.set nIW nId nIc nIH (x := v) (hv.mono (fun _ _ _ e => e) fun a ha _ => ⟨S6.di.ne ha, (fun z => by subst z; rw [S6.wh] at ha; cases ha), (fun z => by subst z; rw [S6.it] at ha; cases ha)⟩) wh
      walk_at "no"
      walk_at "no"
      walk_at "no"
      refine ⟨_, rfl, I, _, rfl, .inl ⟨SqL.of S7.it, fun T nT => ?_⟩⟩
      refine ⟨_, rfl, _, rfl, W, ts, _, at', rfl, rfl, (upd_ne (ne_of_none S7.wh nT)).trans S7.wh, hixW, _, rfl, ?_⟩
      exact hfin _ _ S7.wh (fun x q => (S7.xd x q).mono (fun _ _ _ e => e) fun a ha _ => ⟨ha.1, ha.2.1⟩) (fun x q => (S7.td x q).mono (fun _ _ _ e => e) fun a ha _ => ⟨ha.1, ha.2.1⟩) S7.kp S7.di T nT
    · walk_at "no"
      walk_at "no"
      walk_at "yes"
      refine ⟨(by show 2 ≤ sizeLine; decide), fun p1 n1' => ?_⟩
      have s7 := same_new (o := .lst [.bl true, .bl false]) n1'
      have f1 : (upd H6 p1 (.lst [.bl true, .bl false])) p1 = some (.lst [.bl true, .bl false]) := upd_same
      have np1d := S6.di.ne n1'
      have S6' := S6.keep (same_keep s7) (S6.di.same s7) nId nWd
      generalize upd H6 p1 (.lst [.bl true, .bl false]) = H7 at *
      refine ⟨_, rfl, d, c, _, rfl, S6'.di, by omega, by omega, fun v H8 f0 f2 k8 D8 => ?_⟩
      have S8 := S6'.keep k8 D8 nId nWd
      obtain ⟨y, hy⟩ : ∃ y, [V.bl true, .bl false][v.toNat]? = some (.bl y) := by
        rcases (by omega : v.toNat = 0 ∨ v.toNat = 1) with e | e <;> rw [e] <;> exact ⟨_, rfl⟩
      refine ⟨p1, _, v, .bl y, rfl, rfl, SqL.of (k8 _ _ np1d f1), ?_, _, rfl, _, rfl, I, _, _, wh, rfl, rfl, S8.it, ixI S8.len, ?_⟩
      · have := atI_nat hy
        rwa [Int.toNat_of_nonneg f0] at this
      have S7 := S8.set nIW nId nIc nIH (x := .bl y) (.bl _) wh
      walk_at "no"
      walk_at "no"
      refine ⟨_, rfl, I, _, rfl, .inl ⟨SqL.of S7.it, fun T nT => ?_⟩⟩
      refine ⟨_, rfl, _, rfl, W, ts, _, at', rfl, rfl, (upd_ne (ne_of_none S7.wh nT)).trans S7.wh, hixW, _, rfl, ?_⟩
      exact hfin _ _ S7.wh (fun x q => (S7.xd x q).mono (fun _ _ _ e => e) fun a ha _ => ⟨ha.1, ha.2.1⟩) (fun x q => (S7.td x q).mono (fun _ _ _ e => e) fun a ha _ => ⟨ha.1, ha.2.1⟩) S7.kp S7.di T nT
    · walk_at "no"
      walk_at "no"
      walk_at "no"
      walk_at "yes"
      refine ⟨_, rfl, _, rfl, _, rfl, I, _, rfl, SqL.of S6.it, fun p1 n1' => ?_⟩
      have s7 := same_new (o := .lst (cutV xs6 none (some (wh : Nat)))) n1'
      walk_at "no"
      have S7 := S6.keep (same_keep s7) (S6.di.same s7) nId nWd
      refine ⟨_, rfl, p1, _, rfl, .inl ⟨SqL.of upd_same, fun T nT => ?_⟩⟩
      refine ⟨_, rfl, _, rfl, W, ts, _, at', rfl, rfl, (upd_ne (ne_of_none S7.wh nT)).trans S7.wh, hixW, _, rfl, ?_⟩
      exact hfin _ _ S7.wh (fun x q => (S7.xd x (cut_mem q)).mono (fun _ _ _ e => e) fun a ha _ => ⟨ha.1, ha.2.1⟩) (fun x q => (S7.td x q).mono (fun _ _ _ e => e) fun a ha _ => ⟨ha.1, ha.2.1⟩) S7.kp S7.di T nT
    · walk_at "no"
      walk_at "no"
      walk_at "no"
      walk_at "no"
      walk_at "yes"
      refine ⟨_, rfl, _, rfl, I, _, (wh : Nat), .int (ks.getD wh 0 + 1), rfl, rfl, SqL.of S6.it, atI_nat hq, ?_⟩
      refine ⟨_, _, rfl, rfl, (by walk_at "side"), _, _, rfl, rfl, _, rfl, _, rfl, I, _, _, wh, rfl, rfl, S6.it, ixI S6.len, ?_⟩
      have S7 := S6.set nIW nId nIc nIH (x := .int (ks.getD wh 0 + 1 + 10 ^ 20)) (.int _) wh
      refine ⟨_, rfl, I, _, rfl, .inl ⟨SqL.of S7.it, fun T nT => ?_⟩⟩
      refine ⟨_, rfl, _, rfl, W, ts, _, at', rfl, rfl, (upd_ne (ne_of_none S7.wh nT)).trans S7.wh, hixW, _, rfl, ?_⟩
      exact hfin _ _ S7.wh (fun x q => (S7.xd x q).mono (fun _ _ _ e => e) fun a ha _ => ⟨ha.1, ha.2.1⟩) (fun x q => (S7.td x q).mono (fun _ _ _ e => e) fun a ha _ => ⟨ha.1, ha.2.1⟩) S7.kp S7.di T nT
end
end Toy

namespace Toy
open PySem PySem.Spec PyProof.Rows L2
local macro_rules | `(tactic| walk_at "hp") => `(tactic| first
  | assumption
  | exact upd_same
  | (refine Eq.trans (upd_ne (by first | assumption | (apply Ne.symm; assumption))) ?_; walk_at "hp"))
local macro_rules | `(tactic| walk_at "side") => `(tactic| first
  | exact .inl ⟨by omega, by omega⟩
  | exact .inr ⟨by omega, by omega⟩
  | exact ⟨by omega, by omega⟩
  | (show _ ≤ _; omega)
  | (show (_ : Int) < _; omega)
  | decide
  | assumption)
local macro_rules | `(tactic| walk_at "r") => `(tactic| first
  | refine ⟨_, rfl, ?_⟩
  | refine ⟨_, _, rfl, rfl, ?_⟩
  | refine ⟨_, _, _, _, rfl, rfl, SqL.of (by walk_at "hp"), rfl, ?_⟩
  | refine ⟨_, _, _, _, rfl, rfl, SqT.of (by walk_at "hp"), rfl, ?_⟩
  | refine ⟨_, _, _, _, rfl, rfl, (by walk_at "hp"), rfl, ?_⟩
  | refine And.intro rfl ?_
  | refine ⟨_, _, rfl, SqT.of (by walk_at "hp"), ?_⟩
  | refine ⟨_, _, rfl, SqL.of (by walk_at "hp"), ?_⟩
  | refine .inl ⟨_, rfl, ?_⟩
  | refine ⟨_, _, rfl, .inl (SqL.of (by walk_at "hp")), ?_⟩
  | refine ⟨_, _, rfl, .inr (SqT.of (by walk_at "hp")), ?_⟩
  | refine ⟨_, _, rfl, .inl ⟨SqL.of (by walk_at "hp"), ?_⟩⟩
  | refine And.intro (.inl ⟨rfl, _, SqL.of (by walk_at "hp")⟩) ?_
  | refine ⟨_, _, _, rfl, rfl, (by walk_at "hp"), ?_⟩
  | refine ⟨_, _, rfl, (by walk_at "hp"), ?_⟩
  | refine And.intro (by walk_at "side") ?_)
local macro_rules | `(tactic| walk_at "rr") => `(tactic| (repeat walk_at "r"))
local macro_rules | `(tactic| walk_at "k") => `(tactic| first
  | refine ite2 (fun _ => ?_) (fun g => absurd rfl g)
  | refine ite2 (fun g => absurd g (by decide)) (fun _ => ?_)
  | refine ite2 (fun _ => ?_) (fun g => absurd (decide_eq_true (by omega)) g)
  | refine ite2 (fun g => absurd (of_decide_eq_true g) (by omega)) (fun _ => ?_)
  | refine ite2 (fun g => (nd_t g (by omega)).elim) (fun _ => ?_)
  | refine ite2 (fun _ => ?_) (fun g => absurd (nd_f g) (by omega)))
local macro_rules | `(tactic| walk_at "rk") => `(tactic| (repeat (first | walk_at "r" | walk_at "k")))
section
variable {P : Program} {w : World} {K : PySem.W.Frag} {mg : Str → Option Value} {base : Heap}
theorem ok__law_row (T : Top K mg) : Ok P w K mg base 2 "_law_row" ["dice", "names", "most"] spLawRow := by
  refine ok_of T.d__law_row sc__law_row (fun vs H Q E h => ?_) (fun f cdv A outer s H vs Q E hr h => ?_)
  · obtain ⟨d, c, l, zs, m, rfl, _⟩ := h
    rfl
  · obtain ⟨d, c, l, zs, m, rfl, D, hl, nld, h1, h2, hm, hm2, k⟩ := h
    obtain ⟨f__law_draw, fd__law_draw, m__law_draw, k__law_draw, b__law_draw, G__law_draw⟩ := ok__law_draw (P := P) (w := w) (base := base) T
    have hr__law_draw : Room 1 _ := hr.mono (by decide)
    refine ⟨_, (pss_one (ps_ret (pe_lc (own := [("k", 3)]) (g := gName 3) rfl sc__law_row.nd (pi_range1 (by rfl) T.b_range (pa_cons (pe_call G__law_draw hr__law_draw rfl m__law_draw k__law_draw b__law_draw .nil pass0 (pa_cons (pv 0) (pa_cons (pe_op op_add (pv 2) pe_int) pa_nil))) pa_nil)) (blkOk_by (own := [("k", 3)]) (N := ["dice", "names", "most", "k"]) (sc := defScope s__law_row) (by decide +kernel)) (fun _ _ _ _ _ => (pg_name (i := 3) sc__law_row.nd rfl (Or.inl rfl))) (fun _ _ _ _ _ => pts_nil) (fun _ _ _ _ _ => (pe_ix (ix_list : IxR _ (rIxL K)) (pv 1) (pe_call G__law_draw hr__law_draw rfl m__law_draw k__law_draw b__law_draw .nil pass0 (pa_cons (pv 0) (pa_cons (pe_callB (id := "len") (call_len_seq : CallR _ _ (rLenSeq K)) (by rfl) T.b_len (by decide +kernel) (pa_cons (pv 1) pa_nil)) pa_nil))) (fun _ _ => rfl)))))), ?_⟩
    walk_at "rr"
    refine ⟨_, c, _, rfl, D, by omega, by omega, fun v H1 v0 v1 k1 D1 => ?_⟩
    have hl1 := k1 _ _ nld hl
    walk_at "rr"
    intro R nR
    have nRd := D1.ne nR
    have nRc := D1.nc nR
    have nRH := k1.free nRd nR
    refine lc_range (lo := 0) (n := v.toNat) (fun i H2 => ∃ ys : List Str, H2 R = some (.lst (ys.map V.str)) ∧ ys.length = i ∧ (∀ y ∈ ys, y ∈ zs) ∧ H2 l = some (.lst (zs.map V.str)) ∧ Keep d H1 H2 ∧ Dice c H2 d)
      ⟨[], upd_same, rfl, by simp, (upd_ne (ne_of_none hl1 nR)).trans hl1, same_keep (same_new nR), D1.upd nRd nRc⟩ ?_ ?_
    · rintro i H2 hi ⟨ys, e1, e2, e3, e4, k2, D2⟩
      refine ⟨rfl, ?_⟩
      refine yesT ?_
      walk_at "rr"
      refine ⟨_, c, _, rfl, D2, by rw [List.length_map]; omega, by rw [List.length_map]; omega, fun u H3 u0 u1 k3 D3 => ?_⟩
      rw [List.length_map] at u1
      obtain ⟨y, hy⟩ : ∃ y, zs[u.toNat]? = some y := ⟨_, List.getElem?_eq_getElem (by omega)⟩
      have hl3 := k3 _ _ nld e4
      refine ⟨l, _, u, .str y, rfl, rfl, SqL.of hl3, ?_, ?_⟩
      · have := atI_nat (xs := zs.map V.str) (j := u.toNat) (v := .str y) (by rw [List.getElem?_map, hy]; rfl)
        rwa [Int.toNat_of_nonneg u0] at this
      have nlR : l ≠ R := ne_of_none hl1 nR
      refine ⟨_, k3 _ _ nRd e1, ?_, ys ++ [y], ?_, ?_, ?_, (upd_ne nlR).trans hl3, (k2.trans k3).mut nR, D3.upd nRd nRc⟩
      · rw [List.length_map]; exact small1000 (by omega)
      · rw [upd_same, List.map_append]; rfl
      · rw [List.length_append, e2]; rfl
      · intro x hx
        rcases List.mem_append.mp hx with q | q
        · exact e3 x q
        · rw [List.mem_singleton.mp q]; exact List.mem_of_getElem? hy
    · rintro H2 ⟨ys, e1, e2, e3, e4, k2, D2⟩
      exact k R ys H2 nRH e1 (by omega) e3 (k1.trans k2) D2
end
end Toy

namespace Toy
open PySem PySem.Spec PyProof.Rows L2
local macro_rules | `(tactic| walk_at "hp") => `(tactic| first
  | assumption
  | exact upd_same
  | (refine Eq.trans (upd_ne (by first | assumption | (apply Ne.symm; assumption))) ?_; walk_at "hp"))
local macro_rules | `(tactic| walk_at "side") => `(tactic| first
  | exact .inl ⟨by omega, by omega⟩
  | exact .inr ⟨by omega, by omega⟩
  | exact ⟨by omega, by omega⟩
  | (show _ ≤ _; omega)
  | (show (_ : Int) < _; omega)
  | decide
  | assumption)
local macro_rules | `(tactic| walk_at "r") => `(tactic| first
  | refine ⟨_, rfl, ?_⟩
  | refine ⟨_, _, rfl, rfl, ?_⟩
  | refine ⟨_, _, _, _, rfl, rfl, SqL.of (by walk_at "hp"), rfl, ?_⟩
  | refine ⟨_, _, _, _, rfl, rfl, SqT.of (by walk_at "hp"), rfl, ?_⟩
  | refine ⟨_, _, _, _, rfl, rfl, (by walk_at "hp"), rfl, ?_⟩
  | refine And.intro rfl ?_
  | refine ⟨_, _, rfl, SqT.of (by walk_at "hp"), ?_⟩
  | refine ⟨_, _, rfl, SqL.of (by walk_at "hp"), ?_⟩
  | refine .inl ⟨_, rfl, ?_⟩
  | refine ⟨_, _, rfl, .inl (SqL.of (by walk_at "hp")), ?_⟩
  | refine ⟨_, _, rfl, .inr (SqT.of (by walk_at "hp")), ?_⟩
  | refine ⟨_, _, rfl, .inl ⟨SqL.of (by walk_at "hp"), ?_⟩⟩
  | refine And.intro (.inl ⟨rfl, _, SqL.of (by walk_at "hp")⟩) ?_
  | refine ⟨_, _, _, rfl, rfl, (by walk_at "hp"), ?_⟩
  | refine ⟨_, _, rfl, (by walk_at "hp"), ?_⟩
  | refine And.intro (by walk_at "side") ?_)
local macro_rules | `(tactic| walk_at "rr") => `(tactic| (repeat walk_at "r"))
local macro_rules | `(tactic| walk_at "k") => `(tactic| first
  | refine ite2 (fun _ => ?_) (fun g => absurd rfl g)
  | refine ite2 (fun g => absurd g (by decide)) (fun _ => ?_)
  | refine ite2 (fun _ => ?_) (fun g => absurd (decide_eq_true (by omega)) g)
  | refine ite2 (fun g => absurd (of_decide_eq_true g) (by omega)) (fun _ => ?_)
  | refine ite2 (fun g => (nd_t g (by omega)).elim) (fun _ => ?_)
  | refine ite2 (fun _ => ?_) (fun g => absurd (nd_f g) (by omega)))
local macro_rules | `(tactic| walk_at "rk") => `(tactic| (repeat (first | walk_at "r" | walk_at "k")))
theorem rows_of {α : Type} {rs : List (Str × α)} : ∀ {ys : List Str}, (∀ y ∈ ys, y ∈ rs.map (·.1)) → ∃ rws, Paired (fun z r => (z, r) ∈ rs) ys rws
  | [], _ => ⟨[], .nil⟩
  | y :: t, h => by
    obtain ⟨rws, hr⟩ := rows_of (rs := rs) (ys := t) fun z hz => h z (List.mem_cons_of_mem _ hz)
    obtain ⟨⟨y', r⟩, hm, rfl⟩ := List.mem_map.mp (h y List.mem_cons_self)
    exact ⟨r :: rws, .cons hm hr⟩
theorem LM.keep {c d : Addr} {H H' : Hp} {L : Addr} {n : Nat} {M : Nat → Nat → Int} (m : LM H L n M) (D : Dice c H d) (k : Keep d H H') (hn : 0 < n) : LM H' L n M := by
  obtain ⟨was, w1, w2, w3⟩ := m.ex
  obtain ⟨cells, i, b, s, t, e, _⟩ := D.ex
  have hL : L ≠ d := by
    intro z; subst z
    rw [e] at w1
    have : [V.ref c, .int i, .int b, .int s, .int t] = was.map V.ref := by injection w1 with w1; injection w1
    cases was with
    | nil => cases this
    | cons a r =>
      rw [List.map_cons] at this
      injection this with _ this
      cases r with
      | nil => cases this
      | cons a' r' => rw [List.map_cons] at this; injection this with this; cases this
  refine ⟨was, k _ _ hL w1, w2, fun j a ha => k _ _ ?_ (w3 j a ha)⟩
  intro z; subst z
  have := w3 j a ha
  rw [e] at this
  have : [V.ref c, .int i, .int b, .int s, .int t] = rowV n (M j) := by injection this with this; injection this
  have h0 := rowV_at (f := M j) hn
  rw [← this] at h0
  cases h0
theorem ReqAt.keep {c d : Addr} {H H' : Hp} {q : Addr} {n : Int} {rs0 : List (Str × List (Option Int))} (r : ReqAt H q n rs0) (D : Dice c H d) (k : Keep d H H') : ReqAt H' q n rs0 := by
  obtain ⟨kvs, h1, h2⟩ := r.ex
  exact ⟨⟨kvs, k _ _ (D.dK h1) h1, h2.firm OptT.firm (keep_tups k D)⟩, r.nd, r.pr⟩
theorem HtsAt.keep {c d : Addr} {H H' : Hp} {R : Addr} {n : Int} {m : Nat} (h : HtsAt H R n m) (D : Dice c H d) (k : Keep d H H') (nR : R ≠ d) : HtsAt H' R n m := by
  obtain ⟨ts, hs, h1, h2, h3⟩ := h
  exact ⟨ts, hs, k _ _ nR h1, prd_imp h2 fun x y r => ⟨IntT.firm _ _ _ _ (keep_tups k D) r.1, r.2⟩, h3⟩
/-- what stands while the law draws -/
structure Wd (d c : Addr) (H : Hp) (mv : V) (rows : List (List Int)) (q R Lw : Addr) (n : Int) (rs0 : List (Str × List (Option Int))) (ys : List Str) (M : Nat → Nat → Int) : Prop where
  di : Dice c H d
  mv : TupT IntT H mv rows
  rq : ReqAt H q n rs0
  row : H R = some (.lst (ys.map V.str))
  nR : R ≠ d
  lm : LM H Lw n.toNat M
theorem Wd.keep {d c : Addr} {H H' : Hp} {mv : V} {rows : List (List Int)} {q R Lw : Addr} {n : Int} {rs0 : List (Str × List (Option Int))} {ys : List Str} {M : Nat → Nat → Int} (w : Wd d c H mv rows q R Lw n rs0 ys M) (k : Keep d H H') (D : Dice c H' d) (hn : 0 < n.toNat) : Wd d c H' mv rows q R Lw n rs0 ys M :=
  ⟨D, TupT.firm IntT.firm _ _ _ _ (keep_tups k w.di) w.mv, w.rq.keep w.di k, k _ _ w.nR w.row, w.nR, w.lm.keep w.di k hn⟩
theorem FloorIs.congr {n : Int} {ws ws' : List (List Int)} {rs : List (List (Option Int))} {H : Hp} {v : V} (e : ∀ i j, i < n.toNat → j < n.toNat → mat ws i j = mat ws' i j) (h : FloorIs n ws rs H v) : FloorIs n ws' rs H v := by
  obtain ⟨a, ts, hs, rfl, h1, h2, h3, h4⟩ := h
  exact ⟨a, ts, hs, rfl, h1, h2, h3, ⟨h4.last, fun k row hk a b p ha hb hp => by rw [← e a b ha hb]; exact h4.step k row hk a b p ha hb hp⟩⟩
theorem Dat.at {A : Addr → Prop} {H : Hp} {a : Addr} (D : Dat A H (.ref a)) : A a ∧ ∃ o, H a = some o := by
  cases D with
  | lst _ _ g h _ => exact ⟨g, _, h⟩
  | tup _ _ g h _ => exact ⟨g, _, h⟩
  | dK _ _ g h _ => exact ⟨g, _, h⟩
theorem Dat.eq {A : Addr → Prop} {H H' : Hp} {a : Addr} (D : Dat A H (.ref a)) (k : ∀ a o, A a → H a = some o → H' a = some o) : H' a = H a := by
  obtain ⟨g, o, h⟩ := D.at
  rw [h, k _ _ g h]
theorem FloorIs.eqv {A : Addr → Prop} {n : Int} {ws : List (List Int)} {rs : List (List (Option Int))} {H H' : Hp} {v : V} (D : Dat A H v) (k : ∀ a o, A a → H a = some o → H' a = some o) :
    (FloorIs n ws rs H' v ∧ ∃ x, headOf H' v x ∧ pc ≤ x) ↔ (FloorIs n ws rs H v ∧ ∃ x, headOf H v x ∧ pc ≤ x) := by
  have sq : ∀ {a : Addr} {ts : List V}, v = .ref a → (SeqAt' H' a ts ↔ SeqAt' H a ts) := by
    intro a ts e
    subst e
    unfold SeqAt'
    rw [D.eq k]
  have it : ∀ {z : V} {ks : List Int}, Dat A H z → (IntT H' z ks ↔ IntT H z ks) := by
    intro z ks Dz
    constructor
    · rintro ⟨b, rfl, hb⟩
      exact ⟨b, rfl, by rw [← Dz.eq k]; exact hb⟩
    · rintro ⟨b, rfl, hb⟩
      exact ⟨b, rfl, by rw [Dz.eq k]; exact hb⟩
  have pr : ∀ {ts : List V} {hs : List (List Int)}, (∀ z ∈ ts, Dat A H z) → (Paired (fun z ks => IntT H' z ks ∧ (ks.length : Int) = n) ts hs ↔ Paired (fun z ks => IntT H z ks ∧ (ks.length : Int) = n) ts hs) := by
    intro ts hs hD
    constructor
    · intro h
      induction h with
      | nil => exact .nil
      | cons r t ih => exact .cons ⟨(it (hD _ List.mem_cons_self)).mp r.1, r.2⟩ (ih fun z hz => hD z (List.mem_cons_of_mem _ hz))
    · intro h
      induction h with
      | nil => exact .nil
      | cons r t ih => exact .cons ⟨(it (hD _ List.mem_cons_self)).mpr r.1, r.2⟩ (ih fun z hz => hD z (List.mem_cons_of_mem _ hz))
  constructor
  · rintro ⟨⟨a, ts, hs, rfl, h1, h2, h3, h4⟩, x, ⟨a', ts', b, ks, e, g1, g2, g3, g4⟩, hx⟩
    cases e
    have h1' := (sq rfl).mp h1
    have g1' := (sq rfl).mp g1
    refine ⟨⟨a, ts, hs, rfl, h1', h2, (pr fun z hz => D.item h1' hz).mp h3, h4⟩, x, ⟨a, ts', b, ks, rfl, g1', g2, ?_, g4⟩, hx⟩
    rw [← (D.item g1' (List.mem_of_getElem? g2)).eq k]; exact g3
  · rintro ⟨⟨a, ts, hs, rfl, h1, h2, h3, h4⟩, x, ⟨a', ts', b, ks, e, g1, g2, g3, g4⟩, hx⟩
    cases e
    refine ⟨⟨a, ts, hs, rfl, (sq rfl).mpr h1, h2, (pr fun z hz => D.item h1 hz).mpr h3, h4⟩, x, ⟨a, ts', b, ks, rfl, (sq rfl).mpr g1, g2, ?_, g4⟩, hx⟩
    rw [(D.item g1 (List.mem_of_getElem? g2)).eq k]; exact g3
section
variable {P : Program} {w : World} {K : PySem.W.Frag} {mg : Str → Option Value} {base : Heap}
def spLaw (K : PySem.W.Frag) : Sp := fun vs H Q _ => ∃ (a : Addr) (ns : List Int), vs = [.ref a] ∧ SqL K H a (ns.map V.int) ∧ ns.length ≤ 63 ∧ ∀ H', Q (.bl true) H'
theorem okf_law (T : Top K mg) {f : Addr} {fd : FuncData} (F : Fun K "law" "law" s_law f fd) : FnOk P w K mg base CX0 9 f fd ["script"] (spLaw K) := by
  refine F.ok sc_law (fun vs H Q E h => ?_) (fun cdv A outer s H vs Q E hr h => ?_)
  · obtain ⟨a, ns, rfl, _⟩ := h
    rfl
  · obtain ⟨a, ns, rfl, hS, hlen, k⟩ := h
    obtain ⟨f__law_dice, fd__law_dice, m__law_dice, k__law_dice, b__law_dice, G__law_dice⟩ := ok__law_dice (P := P) (w := w) (base := base) T
    have hr__law_dice : Room 1 _ := hr.mono (by decide)
    obtain ⟨f__law_draw, fd__law_draw, m__law_draw, k__law_draw, b__law_draw, G__law_draw⟩ := ok__law_draw (P := P) (w := w) (base := base) T
    have hr__law_draw : Room 1 _ := hr.mono (by decide)
    obtain ⟨f__law_moves, fd__law_moves, m__law_moves, k__law_moves, b__law_moves, G__law_moves⟩ := ok__law_moves (P := P) (w := w) (base := base) T
    have hr__law_moves : Room 2 _ := hr.mono (by decide)
    obtain ⟨f__law_names, fd__law_names, m__law_names, k__law_names, b__law_names, G__law_names⟩ := ok__law_names (P := P) (w := w) (base := base) T
    have hr__law_names : Room 3 _ := hr.mono (by decide)
    obtain ⟨f__law_requests, fd__law_requests, m__law_requests, k__law_requests, b__law_requests, G__law_requests⟩ := ok__law_requests (P := P) (w := w) (base := base) T
    have hr__law_requests : Room 3 _ := hr.mono (by decide)
    obtain ⟨f__law_row, fd__law_row, m__law_row, k__law_row, b__law_row, G__law_row⟩ := ok__law_row (P := P) (w := w) (base := base) T
    have hr__law_row : Room 2 _ := hr.mono (by decide)
    obtain ⟨f__law_ways, fd__law_ways, m__law_ways, k__law_ways, b__law_ways, G__law_ways⟩ := ok__law_ways (P := P) (w := w) (base := base) T
    have hr__law_ways : Room 1 _ := hr.mono (by decide)
    obtain ⟨f__law_heights, fd__law_heights, m__law_heights, k__law_heights, b__law_heights, G__law_heights⟩ := ok__law_heights (P := P) (w := w) (base := base) T
    have hr__law_heights : Room 1 _ := hr.mono (by decide)
    obtain ⟨f__law_lowered, fd__law_lowered, m__law_lowered, k__law_lowered, b__law_lowered, G__law_lowered⟩ := ok__law_lowered (P := P) (w := w) (base := base) T
    have hr__law_lowered : Room 2 _ := hr.mono (by decide)
    obtain ⟨f__law_spoiled, fd__law_spoiled, m__law_spoiled, k__law_spoiled, b__law_spoiled, G__law_spoiled⟩ := ok__law_spoiled (P := P) (w := w) (base := base) T
    have hr__law_spoiled : Room 3 _ := hr.mono (by decide)
    obtain ⟨f__law_right_floor, fd__law_right_floor, m__law_right_floor, k__law_right_floor, b__law_right_floor, G__law_right_floor⟩ := ok__law_right_floor (P := P) (w := w) (base := base) T
    have hr__law_right_floor : Room 2 _ := hr.mono (by decide)
    obtain ⟨f_is_floor, fd_is_floor, m_is_floor, k_is_floor, b_is_floor, G_is_floor⟩ := ok_is_floor (P := P) (w := w) (base := base) T
    have hr_is_floor : Room 5 _ := hr.mono (by decide)
    obtain ⟨f_System, fd_System, m_System, M_System, b_System, G_System⟩ := ok_SystemZ_initZ (P := P) (w := w) (base := base) T
    have hr_System : Room 8 _ := hr.mono (by decide)
    have hu := hu_of hr
    have hu64 := hr.units
    refine ⟨_, (pss_cons (ps_set (i := 1) sc_law.nd rfl (Or.inl rfl) (pe_call G__law_dice hr__law_dice rfl m__law_dice k__law_dice b__law_dice .nil pass0 (pa_cons (pv 0) pa_nil)))
      (pss_cons (ps_set (i := 2) sc_law.nd rfl (Or.inl rfl) (pe_cmpR op_eq (pe_call G__law_draw hr__law_draw rfl m__law_draw k__law_draw b__law_draw .nil pass0 (pa_cons (pv 1) (pa_cons pe_int pa_nil))) pe_int (nomark _)))
      (pss_cons (ps_set (i := 3) sc_law.nd rfl (Or.inl rfl) (pe_cmpR op_gt (pe_call G__law_draw hr__law_draw rfl m__law_draw k__law_draw b__law_draw .nil pass0 (pa_cons (pv 1) (pa_cons pe_int pa_nil))) pe_int (nomark _)))
      (pss_cons (ps_set (i := 4) sc_law.nd rfl (Or.inl rfl) (pe_cmpR op_eq (pe_call G__law_draw hr__law_draw rfl m__law_draw k__law_draw b__law_draw .nil pass0 (pa_cons (pv 1) (pa_cons pe_int pa_nil))) pe_int (nomark _)))
      (pss_cons (ps_set (i := 5) sc_law.nd rfl (Or.inl rfl) (pe_op op_add pe_int (pe_call G__law_draw hr__law_draw rfl m__law_draw k__law_draw b__law_draw .nil pass0 (pa_cons (pv 1) (pa_cons pe_int pa_nil)))))
      (pss_cons (ps_set (i := 6) sc_law.nd rfl (Or.inl rfl) (pe_call G__law_moves hr__law_moves rfl m__law_moves k__law_moves b__law_moves .nil pass0 (pa_cons (pv 1) (pa_cons (pv 5) (pa_cons pe_int pa_nil)))))
      (pss_cons (ps_set (i := 7) sc_law.nd rfl (Or.inl rfl) (pe_call G__law_names hr__law_names rfl m__law_names k__law_names b__law_names .nil pass0 (pa_cons (pv 1) (pa_cons (pe_op op_add pe_int (pe_call G__law_draw hr__law_draw rfl m__law_draw k__law_draw b__law_draw .nil pass0 (pa_cons (pv 1) (pa_cons pe_int pa_nil)))) (pa_cons pe_int pa_nil)))))
      (pss_cons (ps_set (i := 8) sc_law.nd rfl (Or.inl rfl) (pe_call G__law_requests hr__law_requests rfl m__law_requests k__law_requests b__law_requests .nil pass0 (pa_cons (pv 1) (pa_cons (pv 7) (pa_cons (pv 5) (pa_cons pe_int pa_nil))))))
      (pss_cons (ps_set (i := 9) sc_law.nd rfl (Or.inl rfl) (pe_call G__law_row hr__law_row rfl m__law_row k__law_row b__law_row .nil pass0 (pa_cons (pv 1) (pa_cons (pv 7) (pa_cons pe_int pa_nil)))))
      (pss_cons (ps_set (i := 10) sc_law.nd rfl (Or.inl rfl) (pe_call G__law_ways hr__law_ways rfl m__law_ways k__law_ways b__law_ways .nil pass0 (pa_cons (pv 6) pa_nil)))
      (pss_cons (ps_set (i := 11) sc_law.nd rfl (Or.inl rfl) (pe_call G__law_heights hr__law_heights rfl m__law_heights k__law_heights b__law_heights .nil pass0 (pa_cons (pv 10) (pa_cons (pv 8) (pa_cons (pv 9) pa_nil)))))
      (C8.pss_cut (ps_if (pt_val (pv 2))
      (pss_one (ps_set (i := 11) sc_law.nd rfl (Or.inl rfl) (pe_call G__law_lowered hr__law_lowered rfl m__law_lowered k__law_lowered b__law_lowered .nil pass0 (pa_cons (pv 1) (pa_cons (pv 11) pa_nil)))))
      pss_nil)
      (pss_cons (ps_set (i := 12) sc_law.nd rfl (Or.inl rfl) (pe_op op_add (pe_ix ix_tup (pe_ix (ix_list.or ix_tup) (pv 11) pe_int (fun _ _ => rfl)) pe_int (fun _ _ => rfl)) (pe_ix ix_list (pe_lst (pa_cons pe_int (pa_cons pe_int (pa_cons pe_int (pa_cons (pe_un un_neg pe_int) (pa_cons (pe_un un_neg (pe_op op_pow pe_int pe_int)) pa_nil)))))) (pe_call G__law_draw hr__law_draw rfl m__law_draw k__law_draw b__law_draw .nil pass0 (pa_cons (pv 1) (pa_cons pe_int pa_nil))) (fun _ _ => rfl))))
      (C8.pss_cut (ps_if (pt_val (pv 3))
      (pss_one (ps_set (i := 11) sc_law.nd rfl (Or.inl rfl) (pe_call G__law_spoiled hr__law_spoiled rfl m__law_spoiled k__law_spoiled b__law_spoiled .nil pass0 (pa_cons (pv 1) (pa_cons (pv 11) pa_nil)))))
      pss_nil)
      (C8.pss_cut (ps_if (PW.pt (pw_and (pt_val (pe_callB (id := "isinstance") (call_isN (T := "list")) (by rfl) T.b_isinstance (by decide +kernel) (pa_cons (pv 11) (pa_cons (pe_bltn (v := .ty "list") (u := .type "list") (by rfl) T.b_list (by decide +kernel) rfl) pa_nil)))) (pw_and1 (pt_not (pt_val (pv 4))))))
      (pss_one (ps_set (i := 11) sc_law.nd rfl (Or.inl rfl) (pe_callTy (T := "tuple") call_tuple_of (by rfl) T.b_tuple (by decide +kernel) (pa_cons (pv 11) pa_nil))))
      pss_nil)
      (C8.pss_cut (ps_set (i := 13) sc_law.nd rfl (Or.inl rfl) (pe_and (pe_call G__law_right_floor hr__law_right_floor rfl m__law_right_floor k__law_right_floor b__law_right_floor .nil pass0 (pa_cons (pv 10) (pa_cons (pv 8) (pa_cons (pv 9) (pa_cons (pv 11) pa_nil))))) (pe_one (pe_cmpR op_ge (pe_ix ix_tup (pe_ix (ix_list.or ix_tup) (pv 11) pe_int (fun _ _ => rfl)) pe_int (fun _ _ => rfl)) (pv 12) (nomark _)))))
      (pss_cons (ps_set (i := 14) sc_law.nd rfl (Or.inl rfl) (pe_callTy (T := "list") call_list_of (by rfl) T.b_list (by decide +kernel) (pa_cons (pv 9) pa_nil)))
      (C8.pss_cut (ps_if (pt_cmpR op_eq (pe_call G__law_draw hr__law_draw rfl m__law_draw k__law_draw b__law_draw .nil pass0 (pa_cons (pv 1) (pa_cons pe_int pa_nil))) pe_int (nomark _))
      (pss_one (ps_set (i := 14) sc_law.nd rfl (Or.inl rfl) (pe_callTy (T := "tuple") call_tuple_of (by rfl) T.b_tuple (by decide +kernel) (pa_cons (pv 9) pa_nil))))
      pss_nil)
      (pss_cons (ps_set (i := 15) sc_law.nd rfl (Or.inl rfl) (pe_call G_is_floor hr_is_floor rfl m_is_floor k_is_floor b_is_floor .nil pass0 (pa_cons (pe_make M_System G_System hr_System rfl m_System b_System .nil pass0 (pa_cons (pv 6) (pa_cons (pe_callTy (T := "dict") call_dictD (by rfl) T.b_dict (by decide +kernel) (pa_cons (pv 8) pa_nil)) pa_nil))) (pa_cons (pv 14) (pa_cons (pv 12) (pa_cons (pv 11) pa_nil))))))
      (pss_one (ps_ret (pe_and (pe_callB (id := "isinstance") (call_isN (T := "bool")) (by rfl) T.b_isinstance (by decide +kernel) (pa_cons (pv 15) (pa_cons (pe_bltn (v := .ty "bool") (u := .type "bool") (by rfl) T.b_bool (by decide +kernel) rfl) pa_nil))) (pe_one (pe_cmpR op_eq (pv 15) (pv 13) (nomark _))))))))))))))))))))))))), ?_⟩
    refine ⟨_, rfl, a, ns, rfl, hS, hlen, fun d c H1 s1 nd nc D1 => ?_⟩
    walk_at "rr"
    refine ⟨d, c, _, rfl, D1, by omega, by omega, fun v1 H2 a0 a1 k2 D2 => ?_⟩
    walk_at "rr"
    refine ⟨d, c, _, rfl, D2, by omega, by omega, fun v2 H3 b0 b1 k3 D3 => ?_⟩
    walk_at "rr"
    refine ⟨d, c, _, rfl, D3, by omega, by omega, fun v3 H4 c0 c1 k4 D4 => ?_⟩
    walk_at "rr"
    refine ⟨d, c, _, rfl, D4, by omega, by omega, fun v4 H5 e0 e1 k5 D5 => ?_⟩
    walk_at "rr"
    refine ⟨d, c, _, 9, rfl, D5, by omega, by omega, by omega, by omega, fun mv rows H6 hmv sq k6 D6 => ?_⟩
    walk_at "rr"
    refine ⟨d, c, _, rfl, D6, by omega, by omega, fun v5 H7 f0 f1 k7 D7 => ?_⟩
    walk_at "rr"
    refine ⟨d, c, _, 4, rfl, D7, by omega, by omega, by omega, by omega, fun l zs H8 nl8 hl nd1 z1 z2 hN k8 D8 => ?_⟩
    have nld := D7.ne nl8
    walk_at "rr"
    refine ⟨d, c, l, zs, _, 9, rfl, D8, hl, by omega, nld, nd1, by omega, by omega, by omega, by omega, fun q kvs rs0 H9 nq hq hRq hkeys hpr k9 D9 => ?_⟩
    have hl9 := k9 _ _ nld hl
    walk_at "rr"
    refine ⟨d, c, l, zs, 8, rfl, D9, hl9, nld, z1, by omega, by omega, by omega, fun R ys H10 nR hRl hys hmem k10 D10 => ?_⟩
    have nRd := D9.ne nR
    have hmv10 : TupT IntT H10 mv rows := TupT.firm IntT.firm _ _ _ _ (fun e xs q => k10.tup D9 (k9.tup D8 (k8.tup D7 (k7.tup D6 q)))) hmv
    have hRq9 : ReqAt H9 q (1 + v4) rs0 := ⟨⟨kvs, hq, hRq⟩, by rw [hkeys]; exact nd1, hpr⟩
    obtain ⟨rws, hrw⟩ := rows_of (rs := rs0) (ys := ys) fun y hy => by rw [hkeys]; exact hmem y hy
    have hrl := prd_len hrw
    refine ⟨_, rfl, mv, rows, _, 9, rfl, hmv10, sq, by omega, by omega, fun Lw M H11 s11 hM hL => ?_⟩
    have W11 : Wd d c H11 mv rows q R Lw (1 + v4) rs0 ys M := ⟨D10.same s11, TupT.firm IntT.firm _ _ _ _ (same_tups s11) hmv10, (hRq9.keep D9 k10).same s11, s11 _ _ hRl, nRd, hM⟩
    have hn0 : 0 < (1 + v4).toNat := by omega
    refine ⟨_, rfl, _, rfl, _, rfl, Lw, q, R, M, 1 + v4, rs0, ys, rws, rfl, hM, by omega, by omega, W11.rq, W11.row, hrw, by omega, fun G H12 s12 nG hG => ?_⟩
    have W12 := W11.keep (same_keep s12) (W11.di.same s12) hn0
    have nGd := W11.di.ne nG
    -- lowered
    refine ⟨fun σ' H' => ∃ (G' : Addr), σ' = [some (.ref a), some (.ref d), some (.bl (decide (V.int v1 = V.int 1))), some (.bl (decide (0 < v2))), some (.bl (decide (V.int v3 = V.int 1))), some (.int (1 + v4)), some mv, some (.ref l), some (.ref q), some (.ref R), some (.ref Lw), some (.ref G'), none, none, none, none] ∧
      HtsAt H' G' (1 + v4) (ys.length + 1) ∧ G' ≠ d ∧ Wd d c H' mv rows q R Lw (1 + v4) rs0 ys M, ?_, ?_⟩
    · refine ⟨_, rfl, _, rfl, ?_⟩
      refine ite2 (fun g => ?_) (fun g => ?_)
      · refine ⟨_, rfl, _, rfl, d, c, G, 1 + v4, _, rfl, W12.di, nGd, hG, by omega, by omega, fun G' H13 k13 D13 nG' hG' => ?_⟩
        exact ⟨G', rfl, hG', W12.di.ne nG', W12.keep k13 D13 hn0⟩
      · exact ⟨G, rfl, hG, nGd, W12⟩
    rintro σ' H13 ⟨G1, rfl, ⟨ts, hs, g1, g2, g3⟩, nG1, W13⟩
    obtain ⟨t0, ht0⟩ : ∃ t, ts[0]? = some t := ⟨_, List.getElem?_eq_getElem (by omega)⟩
    obtain ⟨k0, hk0, ⟨b0, rfl, hb0⟩, hkl⟩ := prd_at1 g2 ht0
    refine ⟨_, rfl, ?_⟩
    refine SeqAt'.ix (K := K) (.inr g1) (atI_nat (j := 0) ht0) ?_
    refine ⟨b0, _, (0 : Nat), .int (k0.getD 0 0), rfl, rfl, SqT.of hb0, atI_nat (by rw [List.getElem?_map, getDat 0 (by omega)]; rfl), ?_⟩
    walk_at "rr"
    intro p1 np1
    have s14 := same_new (o := .lst [.int 0, .int 0, .int 1, .int (-1), .int (-10 ^ 20)]) np1
    have W14 := W13.keep (same_keep s14) (W13.di.same s14) hn0
    have np1d := W13.di.ne np1
    have hp1 : (upd H13 p1 (.lst [.int 0, .int 0, .int 1, .int (-1), .int (-10 ^ 20)])) p1 = some (.lst [.int 0, .int 0, .int 1, .int (-1), .int (-10 ^ 20)]) := upd_same
    refine ⟨_, rfl, d, c, _, rfl, W14.di, by omega, by omega, fun v6 H15 h0 h1 k15 D15 => ?_⟩
    have W15 := W14.keep k15 D15 hn0
    obtain ⟨y, hy⟩ : ∃ y : Int, [V.int 0, .int 0, .int 1, .int (-1), .int (-10 ^ 20)][v6.toNat]? = some (.int y) := by
      rcases (by omega : v6.toNat = 0 ∨ v6.toNat = 1 ∨ v6.toNat = 2 ∨ v6.toNat = 3 ∨ v6.toNat = 4) with e | e | e | e | e <;> rw [e] <;> exact ⟨_, rfl⟩
    refine ⟨p1, _, v6, .int y, rfl, rfl, SqL.of (k15 _ _ np1d hp1), ?_, _, _, rfl, rfl, ?_⟩
    · have := atI_nat hy
      rwa [Int.toNat_of_nonneg h0] at this
    have hG15 : HtsAt H15 G1 (1 + v4) (ys.length + 1) := HtsAt.keep (HtsAt.keep ⟨ts, hs, g1, g2, g3⟩ W13.di (same_keep s14) nG1) W14.di k15 nG1
    have datG : ∀ {H' : Hp}, HtsAt H' G1 (1 + v4) (ys.length + 1) → Dice c H' d → Dat (fun a => a ≠ d) H' (.ref G1) := by
      rintro H' ⟨ts', hs', g1', g2', g3'⟩ D'
      refine .lst G1 ts' nG1 g1' fun x hx => ?_
      obtain ⟨j, hj⟩ := List.getElem?_of_mem hx
      obtain ⟨ks, _, hk, _⟩ := prd_at1 g2' hj
      refine Dat.intT hk fun a e => ?_
      obtain ⟨a', e', ha'⟩ := hk
      subst e'; cases e
      exact D'.tup ha'
    -- spoiled
    refine ⟨fun σ' H' => ∃ (v : V) (pc : Int), σ' = [some (.ref a), some (.ref d), some (.bl (decide (V.int v1 = V.int 1))), some (.bl (decide (0 < v2))), some (.bl (decide (V.int v3 = V.int 1))), some (.int (1 + v4)), some mv, some (.ref l), some (.ref q), some (.ref R), some (.ref Lw), some v, some (.int pc), none, none, none] ∧
      Dat (fun a => a ≠ d) H' v ∧ Wd d c H' mv rows q R Lw (1 + v4) rs0 ys M, ?_, ?_⟩
    · refine ⟨_, rfl, _, rfl, ?_⟩
      refine ite2 (fun g => ?_) (fun g => ?_)
      · refine ⟨_, rfl, _, rfl, d, c, G1, 1 + v4, _, rfl, W15.di, nG1, hG15, by omega, by omega, by omega, by omega, fun v H16 hv k16 D16 => ?_⟩
        exact ⟨v, _, rfl, hv, W15.keep k16 D16 hn0⟩
      · exact ⟨.ref G1, _, rfl, datG hG15 D15, W15⟩
    rintro σ' H16 ⟨v, pc, rfl, hv, W16⟩
    -- a tuple
    refine ⟨fun σ' H' => ∃ (v : V) (pc : Int), σ' = [some (.ref a), some (.ref d), some (.bl (decide (V.int v1 = V.int 1))), some (.bl (decide (0 < v2))), some (.bl (decide (V.int v3 = V.int 1))), some (.int (1 + v4)), some mv, some (.ref l), some (.ref q), some (.ref R), some (.ref Lw), some v, some (.int pc), none, none, none] ∧
      Dat (fun a => a ≠ d) H' v ∧ Wd d c H' mv rows q R Lw (1 + v4) rs0 ys M, ?_, ?_⟩
    · obtain ⟨nv, hnv⟩ := hv.ty
      refine ⟨_, rfl, _, nv, _, rfl, hnv, kit7 hnv (T := "list") (by simp), _, rfl, ?_⟩
      refine ite2 (fun g => ?_) (fun g => ?_)
      · refine ⟨_, rfl, _, rfl, ?_⟩
        refine ite2 (fun g2 => ?_) (fun g2 => ?_)
        · have hnl : (nv == "list" || nv == "tuple") = true := by
            simp only [Bool.or_eq_true, Bool.and_eq_true, beq_iff_eq] at g ⊢
            rcases g with g | g
            · exact .inl g
            · exact absurd g.2 (by decide)
          obtain ⟨A, xs, rfl, hA⟩ := tyN_seq hnv hnl
          have hAl : H16 A = some (.lst xs) := by
            rcases hA with hA | hA
            · rw [ty_tup hA] at hnv
              cases hnv
              exact absurd g (by decide)
            · exact hA
          refine ⟨_, rfl, A, _, rfl, .inl ⟨SqL.of hAl, fun t nt => ?_⟩⟩
          have s17 := same_new (o := .tup xs) nt
          exact ⟨.ref t, pc, rfl, .tup t xs (W16.di.ne nt) upd_same fun x hx => (hv.item (.inr hAl) hx).same s17, W16.keep (same_keep s17) (W16.di.same s17) hn0⟩
        · exact ⟨v, pc, rfl, hv, W16⟩
      · exact ⟨v, pc, rfl, hv, W16⟩
    rintro σ' H17 ⟨v, pc, rfl, hv, W17⟩
    obtain ⟨ws, hws⟩ : ∃ ws : List (List Int), ∀ i j, i < (1 + v4).toNat → j < (1 + v4).toNat → M i j = mat ws i j := by
      refine ⟨(List.range (1 + v4).toNat).map fun i => (List.range (1 + v4).toNat).map (M i), fun i j hi hj => ?_⟩
      rw [mat_at (r := (List.range (1 + v4).toNat).map (M i)) (by rw [List.getElem?_map, List.getElem?_range hi]; rfl)]
      rw [List.getD_eq_getElem?_getD, List.getElem?_map, List.getElem?_range hj]
      rfl
    -- due
    refine ⟨fun σ' H' => ∃ (due : Bool), σ' = [some (.ref a), some (.ref d), some (.bl (decide (V.int v1 = V.int 1))), some (.bl (decide (0 < v2))), some (.bl (decide (V.int v3 = V.int 1))), some (.int (1 + v4)), some mv, some (.ref l), some (.ref q), some (.ref R), some (.ref Lw), some v, some (.int pc), some (.bl due), none, none] ∧
      (due = true ↔ (FloorIs (1 + v4) ws rws H17 v ∧ ∃ x, headOf H17 v x ∧ pc ≤ x)) ∧ Same H17 H', ?_, ?_⟩
    · refine ⟨_, rfl, _, rfl, _, rfl, _, rfl, Lw, q, R, M, 1 + v4, rs0, ys, rws, ws, v, _, rfl, W17.lm, by omega, by omega, hws, W17.rq, W17.row, hrw, by omega, hv, fun b H18 s18 hb => ?_⟩
      refine ⟨_, rfl, ?_⟩
      refine ite2 (fun g => ?_) (fun g => ?_)
      · obtain ⟨aF, ts, hs, rfl, hsq, hl, hp, hfl⟩ := hb.mp g
        obtain ⟨t0, ht0⟩ : ∃ t, ts[0]? = some t := ⟨_, List.getElem?_eq_getElem (by omega)⟩
        obtain ⟨k0, hk0, ⟨b0, rfl, hb0⟩, hkl⟩ := prd_at1 hp ht0
        refine ⟨_, rfl, ?_⟩
        refine SeqAt'.ix (K := K) (hsq.same s18) (atI_nat (j := 0) ht0) ?_
        refine ⟨b0, _, (0 : Nat), .int (k0.getD 0 0), rfl, rfl, SqT.of (s18 _ _ hb0), atI_nat (by rw [List.getElem?_map, getDat 0 (by omega)]; rfl), _, rfl, _, _, rfl, rfl, ?_⟩
        have hh : headOf H17 (.ref aF) (k0.getD 0 0) := ⟨aF, ts, b0, k0, rfl, hsq, ht0, hb0, rfl⟩
        refine ⟨_, rfl, ?_, s18⟩
        rw [decide_eq_true_iff]
        exact ⟨fun h => ⟨hb.mp g, _, hh, h⟩, fun ⟨_, x, hx, h⟩ => by rw [hx.fn hh] at h; exact h⟩
      · exact ⟨false, rfl, ⟨fun h => (nomatch h), fun h => absurd (hb.mpr h.1) g⟩, s18⟩
    rintro σ' H18 ⟨due, rfl, hdue, s18⟩
    have W18 := W17.keep (same_keep s18) (W17.di.same s18) hn0
    refine ⟨_, rfl, R, _, rfl, .inl (SqL.of W18.row), fun Ak nAk => ?_⟩
    have s19 := same_new (o := .lst (ys.map V.str)) nAk
    have hAk : (upd H18 Ak (.lst (ys.map V.str))) Ak = some (.lst (ys.map V.str)) := upd_same
    have nAkd := W18.di.ne nAk
    have W19 := W18.keep (same_keep s19) (W18.di.same s19) hn0
    generalize upd H18 Ak (.lst (ys.map V.str)) = H19 at *
    -- asked
    refine ⟨fun σ' H' => ∃ (av : V), σ' = [some (.ref a), some (.ref d), some (.bl (decide (V.int v1 = V.int 1))), some (.bl (decide (0 < v2))), some (.bl (decide (V.int v3 = V.int 1))), some (.int (1 + v4)), some mv, some (.ref l), some (.ref q), some (.ref R), some (.ref Lw), some v, some (.int pc), some (.bl due), some av, none] ∧
      RowAt H' av ys ∧ Keep d H19 H' ∧ Dice c H' d, ?_, ?_⟩
    · walk_at "rr"
      refine ⟨d, c, _, rfl, W19.di, by omega, by omega, fun v7 H20 i0 i1 k20 D20 => ?_⟩
      walk_at "rr"
      refine ite2 (fun g => ?_) (fun g => ?_)
      · refine ⟨_, rfl, R, _, rfl, .inl ⟨SqL.of (k20 _ _ nRd W19.row), fun t nt => ?_⟩⟩
        have s21 := same_new (o := .tup (ys.map V.str)) nt
        exact ⟨.ref t, rfl, ⟨t, rfl, .inl upd_same⟩, k20.trans (same_keep s21), D20.same s21⟩
      · exact ⟨.ref Ak, rfl, ⟨Ak, rfl, .inr (k20 _ _ nAkd hAk)⟩, k20, D20⟩
    rintro σ' H20 ⟨av, rfl, hav, k20, D20⟩
    have W20 := W19.keep k20 D20 hn0
    obtain ⟨kvs', hq20, hRq20⟩ := W20.rq.ex
    refine ⟨_, rfl, _, rfl, q, kvs', rfl, .inl hq20, fun p2 np2 x dx nx ndx nex => ?_⟩
    have s8 : Same H20 (upd H20 p2 (.dK kvs')) := same_new np2
    have s9 : Same (upd H20 p2 (.dK kvs')) (upd (upd (upd H20 p2 (.dK kvs')) dx (.own x)) x (.ins T.c_System dx [])) := fun b o e => by
      rw [upd_ne (ne_of_none e nx), upd_ne (ne_of_none e ndx)]
      exact e
    have s89 := s8.trans s9
    have hzl : rs0.length = zs.length := by rw [← hkeys, List.length_map]
    refine ⟨x, dx, mv, p2, rows, kvs', rs0, _, rfl, upd_same, ?_, sq, by omega, by omega, s9 _ _ upd_same, ?_, W20.rq.nd, by omega, by omega, ?_, fun S H21 ok eS eR eP SA kp => ⟨rfl, ?_⟩⟩
    · exact TupT.firm IntT.firm _ _ _ _ (same_tups s89) W20.mv
    · exact hRq20.firm OptT.firm (same_tups s89)
    · intro y hy
      have hy4 := hN y.1 (by rw [← hkeys]; exact List.mem_map.mpr ⟨y, hy, rfl⟩)
      exact ⟨hpr y hy, ⟨hy4.lo, by have := hy4.hi; omega, hy4.low⟩⟩
    have s21 : Same H20 H21 := fun b o e => kp b o (ne_of_none (s8 _ _ e) nx) (s89 b o e)
    have hRS : RowsOf S ys rws := prd_imp hrw fun z r h => eP.mem_iff.mpr h
    have k21 : Keep d H17 H21 := ((same_keep (s18.trans s19)).trans k20).trans (same_keep s21)
    have hv21 := hv.keep k21
    refine ⟨_, rfl, _, rfl, _, rfl, x, S, av, ys, rws, pc, v, _, rfl, ok, SA, hav.same s21, hRS, by omega, hv21, fun b H22 s22 hb => ?_⟩
    have hmats : ∀ i j, i < S.n.toNat → j < S.n.toNat → mat S.ws i j = mat ws i j := by
      intro i j hi hj
      have hw := ok.wy.least
      rw [eS, eR] at hw
      rw [eS] at hi hj
      rw [← hws i j hi hj]
      exact (hL.uniq hw hi hj).symm
    have e1 : (b = true) ↔ (due = true) := by
      rw [hb, hdue]
      have := FloorIs.eqv (pc := pc) (n := 1 + v4) (ws := ws) (rs := rws) hv (H' := H21) (fun a o ha e => k21 _ _ ha e)
      rw [← this, eS]
      constructor
      · exact fun ⟨h1, h2⟩ => ⟨h1.congr fun i j hi hj => hmats i j (by rw [eS]; exact hi) (by rw [eS]; exact hj), h2⟩
      · exact fun ⟨h1, h2⟩ => ⟨h1.congr fun i j hi hj => (hmats i j (by rw [eS]; exact hi) (by rw [eS]; exact hj)).symm, h2⟩
    have e2 : b = due := by
      cases b <;> cases due <;> first | rfl | (simp at e1)
    subst e2
    refine ⟨_, rfl, _, "bool", _, rfl, rfl, kit7 (T := "bool") (H := H22) (v := .bl b) rfl (by simp), _, rfl, ?_⟩
    refine ite2 (fun g => ?_) (fun g => absurd (by rfl) g)
    refine ⟨_, rfl, _, rfl, rfl, ?_⟩
    rw [show decide (V.bl b = V.bl b) = true from decide_eq_true rfl]
    exact k _
end
end Toy

set_option maxHeartbeats 0
namespace Toy
open PySem PySem.Spec PyProof.Rows L2
section
variable {K : PySem.W.Frag} {h : Heap} {mg : Str → Option Value}
theorem fun_of {x qual : Str} {st : Stmt} {f : Addr} {fd : FuncData} (F : FunD K x qual (defArgs st) (defBody st) (defScope st) [] [] f fd) : Fun K x qual st f fd := by
  obtain ⟨oc, od, dV, kV, doc, pm, an, cdv, ct, osl, rfl, lk, hcd, hD, hK⟩ := F.ex
  rcases hD with ⟨_, rfl⟩ | ⟨e, _⟩
  · exact ⟨⟨oc, od, kV, doc, pm, an, cdv, ct, osl, rfl, lk, hcd⟩, F.kp⟩
  · exact absurd rfl e
theorem def_at {x : Str} {st : Stmt} {ps : List Str} (X : K.In h) (G : h.Ns mainGlobals mg) (g : (He.Fa.glo x).ok K = true) (c : ∃ fd, FunD K x x (defArgs st) (defBody st) (defScope st) [] [] (He.ga K x) fd)
    (hb : ∀ (kV doc pm : Value) (an : Option Addr) (cdv ct : Value) (us : List Value), us.length = ps.length → bindArgs (PySem.W.fnOf x x (defArgs st) (defBody st) (defScope st) .none kV doc pm an cdv ct) ⟨us, []⟩ = pure (ps.zip us)) : DefAt K mg x st ps := by
  obtain ⟨fd, F⟩ := c
  exact ⟨_, fd, He.glo_ok X G g, fun_of F, (fun_of F).binds hb⟩
theorem init_at {C qual : Str} {st : Stmt} {ps : List Str} (g : (He.Fa.mkr C).ok K = true) (c : ∃ fd, FunD K "__init__" qual (defArgs st) (defBody st) (defScope st) [] [] (He.ma K (He.ga K C) "__init__") fd)
    (hb : ∀ (kV doc pm : Value) (an : Option Addr) (cdv ct : Value) (us : List Value), us.length = ps.length → bindArgs (PySem.W.fnOf "__init__" qual (defArgs st) (defBody st) (defScope st) .none kV doc pm an cdv ct) ⟨us, []⟩ = pure (ps.zip us)) : ClsInit K (He.ga K C) qual st ps := by
  obtain ⟨fd, F⟩ := c
  exact ⟨_, fd, He.mkr_ok g, fun_of F, (fun_of F).binds hb⟩
theorem meth_at {C m qual : Str} {st : Stmt} {ps : List Str} (g : (He.Fa.meth C m).ok K = true) (c : ∃ fd, FunD K m qual (defArgs st) (defBody st) (defScope st) [] [] (He.ma K (He.ga K C) m) fd)
    (hb : ∀ (kV doc pm : Value) (an : Option Addr) (cdv ct : Value) (us : List Value), us.length = ps.length → bindArgs (PySem.W.fnOf m qual (defArgs st) (defBody st) (defScope st) .none kV doc pm an cdv ct) ⟨us, []⟩ = pure (ps.zip us)) : MethAt K (He.ga K C) m qual st ps := by
  obtain ⟨fd, F⟩ := c
  exact ⟨_, fd, He.meth_ok g, fun_of F, (fun_of F).binds hb⟩
end
/-! the head -/
def hds_is_integer : He.DefD := ⟨("is_integer", none), "is_integer", "is_integer", defArgs s_is_integer, defBody s_is_integer, defScope s_is_integer, [], []⟩
def hds_is_natural : He.DefD := ⟨("is_natural", none), "is_natural", "is_natural", defArgs s_is_natural, defBody s_is_natural, defScope s_is_natural, [], []⟩
def hds_is_below : He.DefD := ⟨("is_below", none), "is_below", "is_below", defArgs s_is_below, defBody s_is_below, defScope s_is_below, [], []⟩
def hds_is_row : He.DefD := ⟨("is_row", none), "is_row", "is_row", defArgs s_is_row, defBody s_is_row, defScope s_is_row, [], []⟩
def hds_is_tuple_of : He.DefD := ⟨("is_tuple_of", none), "is_tuple_of", "is_tuple_of", defArgs s_is_tuple_of, defBody s_is_tuple_of, defScope s_is_tuple_of, [], []⟩
def hds_is_name : He.DefD := ⟨("is_name", none), "is_name", "is_name", defArgs s_is_name, defBody s_is_name, defScope s_is_name, [], []⟩
def hds_is_known : He.DefD := ⟨("is_known", none), "is_known", "is_known", defArgs s_is_known, defBody s_is_known, defScope s_is_known, [], []⟩
def hds__choices : He.DefD := ⟨("_choices", none), "_choices", "_choices", defArgs s__choices, defBody s__choices, defScope s__choices, [], []⟩
def hds__ceilings : He.DefD := ⟨("_ceilings", none), "_ceilings", "_ceilings", defArgs s__ceilings, defBody s__ceilings, defScope s__ceilings, [], []⟩
def hds__is_integers : He.DefD := ⟨("_is_integers", none), "_is_integers", "_is_integers", defArgs s__is_integers, defBody s__is_integers, defScope s__is_integers, [], []⟩
def hds_is_floor : He.DefD := ⟨("is_floor", none), "is_floor", "is_floor", defArgs s_is_floor, defBody s_is_floor, defScope s_is_floor, [], []⟩
def hds__is_price : He.DefD := ⟨("_is_price", none), "_is_price", "_is_price", defArgs s__is_price, defBody s__is_price, defScope s__is_price, [], []⟩
def hds_is_moves : He.DefD := ⟨("is_moves", none), "is_moves", "is_moves", defArgs s_is_moves, defBody s_is_moves, defScope s_is_moves, [], []⟩
def hds__is_prices : He.DefD := ⟨("_is_prices", none), "_is_prices", "_is_prices", defArgs s__is_prices, defBody s__is_prices, defScope s__is_prices, [], []⟩
def hds__is_requests : He.DefD := ⟨("_is_requests", none), "_is_requests", "_is_requests", defArgs s__is_requests, defBody s__is_requests, defScope s__is_requests, [], []⟩
def hds_least_ways : He.DefD := ⟨("least_ways", none), "least_ways", "least_ways", defArgs s_least_ways, defBody s_least_ways, defScope s_least_ways, [], []⟩
def hds_SystemZ_initZ : He.DefD := ⟨("System", some "__init__"), "__init__", "System.__init__", defArgs s_SystemZ_initZ, defBody s_SystemZ_initZ, defScope s_SystemZ_initZ, [], []⟩
def hds_System_prices : He.DefD := ⟨("System", some "prices"), "prices", "System.prices", defArgs s_System_prices, defBody s_System_prices, defScope s_System_prices, [], []⟩
def hds__law_dice : He.DefD := ⟨("_law_dice", none), "_law_dice", "_law_dice", defArgs s__law_dice, defBody s__law_dice, defScope s__law_dice, [], []⟩
def hds__law_draw : He.DefD := ⟨("_law_draw", none), "_law_draw", "_law_draw", defArgs s__law_draw, defBody s__law_draw, defScope s__law_draw, [], []⟩
def hds__law_word : He.DefD := ⟨("_law_word", none), "_law_word", "_law_word", defArgs s__law_word, defBody s__law_word, defScope s__law_word, [], []⟩
def hds__law_names : He.DefD := ⟨("_law_names", none), "_law_names", "_law_names", defArgs s__law_names, defBody s__law_names, defScope s__law_names, [], []⟩
def hds__law_moves : He.DefD := ⟨("_law_moves", none), "_law_moves", "_law_moves", defArgs s__law_moves, defBody s__law_moves, defScope s__law_moves, [], []⟩
def hds__law_prices : He.DefD := ⟨("_law_prices", none), "_law_prices", "_law_prices", defArgs s__law_prices, defBody s__law_prices, defScope s__law_prices, [], []⟩
def hds__law_requests : He.DefD := ⟨("_law_requests", none), "_law_requests", "_law_requests", defArgs s__law_requests, defBody s__law_requests, defScope s__law_requests, [], []⟩
def hds__law_is_integer : He.DefD := ⟨("_law_is_integer", none), "_law_is_integer", "_law_is_integer", defArgs s__law_is_integer, defBody s__law_is_integer, defScope s__law_is_integer, [], []⟩
def hds__law_ways : He.DefD := ⟨("_law_ways", none), "_law_ways", "_law_ways", defArgs s__law_ways, defBody s__law_ways, defScope s__law_ways, [], []⟩
def hds__law_row : He.DefD := ⟨("_law_row", none), "_law_row", "_law_row", defArgs s__law_row, defBody s__law_row, defScope s__law_row, [], []⟩
def hds__law_right_floor : He.DefD := ⟨("_law_right_floor", none), "_law_right_floor", "_law_right_floor", defArgs s__law_right_floor, defBody s__law_right_floor, defScope s__law_right_floor, [], []⟩
def hds__law_odd : He.DefD := ⟨("_law_odd", none), "_law_odd", "_law_odd", defArgs s__law_odd, defBody s__law_odd, defScope s__law_odd, [], []⟩
def hds__law_heights : He.DefD := ⟨("_law_heights", none), "_law_heights", "_law_heights", defArgs s__law_heights, defBody s__law_heights, defScope s__law_heights, [], []⟩
def hds__law_lowered : He.DefD := ⟨("_law_lowered", none), "_law_lowered", "_law_lowered", defArgs s__law_lowered, defBody s__law_lowered, defScope s__law_lowered, [], []⟩
def hds__law_spoiled : He.DefD := ⟨("_law_spoiled", none), "_law_spoiled", "_law_spoiled", defArgs s__law_spoiled, defBody s__law_spoiled, defScope s__law_spoiled, [], []⟩
def hds_law : He.DefD := ⟨("law", none), "law", "law", defArgs s_law, defBody s_law, defScope s_law, [], []⟩
def hfn0 : List He.DefD := [hds_is_integer, hds_is_natural, hds_is_below, hds_is_row, hds_is_tuple_of, hds_is_name, hds_is_known, hds__choices, hds__ceilings, hds__is_integers, hds_is_floor, hds__is_price, hds_is_moves, hds__is_prices, hds__is_requests, hds_least_ways, hds_SystemZ_initZ, hds_System_prices, hds__law_dice, hds__law_draw, hds__law_word, hds__law_names, hds__law_moves, hds__law_prices, hds__law_requests, hds__law_is_integer, hds__law_ways, hds__law_row, hds__law_right_floor, hds__law_odd]
def hfn1 : List He.DefD := [hds__law_heights, hds__law_lowered, hds__law_spoiled, hds_law]
def hfn : List He.DefD := hfn0 ++ hfn1
def hfa0 : List He.Fa := [.free "abs", .free "all", .free "any", .free "bool", .free "dict", .free "enumerate", .free "int", .free "isinstance", .free "len", .free "list", .free "max", .free "min", .free "range", .free "reversed", .free "sorted", .free "str", .free "tuple", .free "zip", .str "LETTERS" "abcdefghijklmnopqrstuvwxyz", .int "MOST_POSTS" 6, .int "MOST_PRICE" 9, .int "MOST_REQUESTS" 5, .glo "is_integer", .glo "is_natural", .glo "is_below", .glo "is_row", .glo "is_tuple_of", .glo "is_name", .glo "is_known", .glo "_choices"]
def hfa1 : List He.Fa := [.glo "_ceilings", .glo "_is_integers", .glo "is_floor", .glo "_is_price", .glo "is_moves", .glo "_is_prices", .glo "_is_requests", .glo "least_ways", .glo "_law_dice", .glo "_law_draw", .glo "_law_word", .glo "_law_names", .glo "_law_moves", .glo "_law_prices", .glo "_law_requests", .glo "_law_is_integer", .glo "_law_ways", .glo "_law_row", .glo "_law_right_floor", .glo "_law_odd", .glo "_law_heights", .glo "_law_lowered", .glo "_law_spoiled", .glo "law", .cls "System", .glo "System", .noat "System" "moves", .noat "System" "posts", .noat "System" "names", .noat "System" "ways"]
def hfa2 : List He.Fa := [.noat "System" "_requests", .mkr "System", .meth "System" "prices"]
def hfa : List He.Fa := hfa0 ++ hfa1 ++ hfa2
def hnames0 : List Str := ["__name__", "HintError", "BadSystem", "NoPost", "NoRequest", "LETTERS", "is_integer", "is_natural", "is_below", "is_row", "is_tuple_of", "is_name", "is_known", "_choices", "_ceilings", "_is_integers", "is_floor", "MOST_POSTS", "MOST_REQUESTS", "MOST_PRICE", "_is_price", "is_moves", "_is_prices", "_is_requests", "least_ways", "System", "_law_dice", "_law_draw", "_law_word", "_law_names"]
def hnames1 : List Str := ["_law_moves", "_law_prices", "_law_requests", "_law_is_integer", "_law_ways", "_law_row", "_law_right_floor", "_law_odd", "_law_heights", "_law_lowered", "_law_spoiled"]
def hnames : List Str := hnames0 ++ hnames1
def top_of {K : PySem.W.Frag} {h : Heap} {mg : Str → Option Value} (X : K.In h) (G : h.Ns mainGlobals mg) (c : He.SaysD hfa hfn K) : Top K mg where
  b_abs := He.free_ok X G (c.fact 0 (f := .free "abs") rfl)
  b_all := He.free_ok X G (c.fact 1 (f := .free "all") rfl)
  b_any := He.free_ok X G (c.fact 2 (f := .free "any") rfl)
  b_bool := He.free_ok X G (c.fact 3 (f := .free "bool") rfl)
  b_dict := He.free_ok X G (c.fact 4 (f := .free "dict") rfl)
  b_enumerate := He.free_ok X G (c.fact 5 (f := .free "enumerate") rfl)
  b_int := He.free_ok X G (c.fact 6 (f := .free "int") rfl)
  b_isinstance := He.free_ok X G (c.fact 7 (f := .free "isinstance") rfl)
  b_len := He.free_ok X G (c.fact 8 (f := .free "len") rfl)
  b_list := He.free_ok X G (c.fact 9 (f := .free "list") rfl)
  b_max := He.free_ok X G (c.fact 10 (f := .free "max") rfl)
  b_min := He.free_ok X G (c.fact 11 (f := .free "min") rfl)
  b_range := He.free_ok X G (c.fact 12 (f := .free "range") rfl)
  b_reversed := He.free_ok X G (c.fact 13 (f := .free "reversed") rfl)
  b_sorted := He.free_ok X G (c.fact 14 (f := .free "sorted") rfl)
  b_str := He.free_ok X G (c.fact 15 (f := .free "str") rfl)
  b_tuple := He.free_ok X G (c.fact 16 (f := .free "tuple") rfl)
  b_zip := He.free_ok X G (c.fact 17 (f := .free "zip") rfl)
  g_LETTERS := He.str_ok X G (c.fact 18 (f := .str "LETTERS" "abcdefghijklmnopqrstuvwxyz") rfl)
  g_MOST_POSTS := He.int_ok X G (c.fact 19 (f := .int "MOST_POSTS" 6) rfl)
  g_MOST_PRICE := He.int_ok X G (c.fact 20 (f := .int "MOST_PRICE" 9) rfl)
  g_MOST_REQUESTS := He.int_ok X G (c.fact 21 (f := .int "MOST_REQUESTS" 5) rfl)
  d_is_integer := def_at X G (c.fact 22 (f := .glo "is_integer") rfl) (c.def_ 0 (d := hds_is_integer) rfl) (fun _ _ _ _ _ _ us hl => match us, hl with | [_], _ => rfl)
  d_is_natural := def_at X G (c.fact 23 (f := .glo "is_natural") rfl) (c.def_ 1 (d := hds_is_natural) rfl) (fun _ _ _ _ _ _ us hl => match us, hl with | [_], _ => rfl)
  d_is_below := def_at X G (c.fact 24 (f := .glo "is_below") rfl) (c.def_ 2 (d := hds_is_below) rfl) (fun _ _ _ _ _ _ us hl => match us, hl with | [_, _], _ => rfl)
  d_is_row := def_at X G (c.fact 25 (f := .glo "is_row") rfl) (c.def_ 3 (d := hds_is_row) rfl) (fun _ _ _ _ _ _ us hl => match us, hl with | [_], _ => rfl)
  d_is_tuple_of := def_at X G (c.fact 26 (f := .glo "is_tuple_of") rfl) (c.def_ 4 (d := hds_is_tuple_of) rfl) (fun _ _ _ _ _ _ us hl => match us, hl with | [_, _], _ => rfl)
  d_is_name := def_at X G (c.fact 27 (f := .glo "is_name") rfl) (c.def_ 5 (d := hds_is_name) rfl) (fun _ _ _ _ _ _ us hl => match us, hl with | [_], _ => rfl)
  d_is_known := def_at X G (c.fact 28 (f := .glo "is_known") rfl) (c.def_ 6 (d := hds_is_known) rfl) (fun _ _ _ _ _ _ us hl => match us, hl with | [_, _], _ => rfl)
  d__choices := def_at X G (c.fact 29 (f := .glo "_choices") rfl) (c.def_ 7 (d := hds__choices) rfl) (fun _ _ _ _ _ _ us hl => match us, hl with | [_, _, _, _], _ => rfl)
  d__ceilings := def_at X G (c.fact 30 (f := .glo "_ceilings") rfl) (c.def_ 8 (d := hds__ceilings) rfl) (fun _ _ _ _ _ _ us hl => match us, hl with | [_, _, _], _ => rfl)
  d__is_integers := def_at X G (c.fact 31 (f := .glo "_is_integers") rfl) (c.def_ 9 (d := hds__is_integers) rfl) (fun _ _ _ _ _ _ us hl => match us, hl with | [_, _], _ => rfl)
  d_is_floor := def_at X G (c.fact 32 (f := .glo "is_floor") rfl) (c.def_ 10 (d := hds_is_floor) rfl) (fun _ _ _ _ _ _ us hl => match us, hl with | [_, _, _, _], _ => rfl)
  d__is_price := def_at X G (c.fact 33 (f := .glo "_is_price") rfl) (c.def_ 11 (d := hds__is_price) rfl) (fun _ _ _ _ _ _ us hl => match us, hl with | [_], _ => rfl)
  d_is_moves := def_at X G (c.fact 34 (f := .glo "is_moves") rfl) (c.def_ 12 (d := hds_is_moves) rfl) (fun _ _ _ _ _ _ us hl => match us, hl with | [_], _ => rfl)
  d__is_prices := def_at X G (c.fact 35 (f := .glo "_is_prices") rfl) (c.def_ 13 (d := hds__is_prices) rfl) (fun _ _ _ _ _ _ us hl => match us, hl with | [_, _], _ => rfl)
  d__is_requests := def_at X G (c.fact 36 (f := .glo "_is_requests") rfl) (c.def_ 14 (d := hds__is_requests) rfl) (fun _ _ _ _ _ _ us hl => match us, hl with | [_, _], _ => rfl)
  d_least_ways := def_at X G (c.fact 37 (f := .glo "least_ways") rfl) (c.def_ 15 (d := hds_least_ways) rfl) (fun _ _ _ _ _ _ us hl => match us, hl with | [_], _ => rfl)
  d__law_dice := def_at X G (c.fact 38 (f := .glo "_law_dice") rfl) (c.def_ 18 (d := hds__law_dice) rfl) (fun _ _ _ _ _ _ us hl => match us, hl with | [_], _ => rfl)
  d__law_draw := def_at X G (c.fact 39 (f := .glo "_law_draw") rfl) (c.def_ 19 (d := hds__law_draw) rfl) (fun _ _ _ _ _ _ us hl => match us, hl with | [_, _], _ => rfl)
  d__law_word := def_at X G (c.fact 40 (f := .glo "_law_word") rfl) (c.def_ 20 (d := hds__law_word) rfl) (fun _ _ _ _ _ _ us hl => match us, hl with | [_, _], _ => rfl)
  d__law_names := def_at X G (c.fact 41 (f := .glo "_law_names") rfl) (c.def_ 21 (d := hds__law_names) rfl) (fun _ _ _ _ _ _ us hl => match us, hl with | [_, _, _], _ => rfl)
  d__law_moves := def_at X G (c.fact 42 (f := .glo "_law_moves") rfl) (c.def_ 22 (d := hds__law_moves) rfl) (fun _ _ _ _ _ _ us hl => match us, hl with | [_, _, _], _ => rfl)
  d__law_prices := def_at X G (c.fact 43 (f := .glo "_law_prices") rfl) (c.def_ 23 (d := hds__law_prices) rfl) (fun _ _ _ _ _ _ us hl => match us, hl with | [_, _, _], _ => rfl)
  d__law_requests := def_at X G (c.fact 44 (f := .glo "_law_requests") rfl) (c.def_ 24 (d := hds__law_requests) rfl) (fun _ _ _ _ _ _ us hl => match us, hl with | [_, _, _, _], _ => rfl)
  d__law_is_integer := def_at X G (c.fact 45 (f := .glo "_law_is_integer") rfl) (c.def_ 25 (d := hds__law_is_integer) rfl) (fun _ _ _ _ _ _ us hl => match us, hl with | [_], _ => rfl)
  d__law_ways := def_at X G (c.fact 46 (f := .glo "_law_ways") rfl) (c.def_ 26 (d := hds__law_ways) rfl) (fun _ _ _ _ _ _ us hl => match us, hl with | [_], _ => rfl)
  d__law_row := def_at X G (c.fact 47 (f := .glo "_law_row") rfl) (c.def_ 27 (d := hds__law_row) rfl) (fun _ _ _ _ _ _ us hl => match us, hl with | [_, _, _], _ => rfl)
  d__law_right_floor := def_at X G (c.fact 48 (f := .glo "_law_right_floor") rfl) (c.def_ 28 (d := hds__law_right_floor) rfl) (fun _ _ _ _ _ _ us hl => match us, hl with | [_, _, _, _], _ => rfl)
  d__law_odd := def_at X G (c.fact 49 (f := .glo "_law_odd") rfl) (c.def_ 29 (d := hds__law_odd) rfl) (fun _ _ _ _ _ _ us hl => match us, hl with | [_], _ => rfl)
  d__law_heights := def_at X G (c.fact 50 (f := .glo "_law_heights") rfl) (c.def_ 30 (d := hds__law_heights) rfl) (fun _ _ _ _ _ _ us hl => match us, hl with | [_, _, _], _ => rfl)
  d__law_lowered := def_at X G (c.fact 51 (f := .glo "_law_lowered") rfl) (c.def_ 31 (d := hds__law_lowered) rfl) (fun _ _ _ _ _ _ us hl => match us, hl with | [_, _], _ => rfl)
  d__law_spoiled := def_at X G (c.fact 52 (f := .glo "_law_spoiled") rfl) (c.def_ 32 (d := hds__law_spoiled) rfl) (fun _ _ _ _ _ _ us hl => match us, hl with | [_, _], _ => rfl)
  d_law := def_at X G (c.fact 53 (f := .glo "law") rfl) (c.def_ 33 (d := hds_law) rfl) (fun _ _ _ _ _ _ us hl => match us, hl with | [_], _ => rfl)
  c_System := He.ga K "System"
  cl_System := He.cls_ok (c.fact 54 (f := .cls "System") rfl)
  mg_System := He.glo_ok X G (c.fact 55 (f := .glo "System") rfl)
  na_System_moves := He.noat_ok (c.fact 56 (f := .noat "System" "moves") rfl)
  na_System_posts := He.noat_ok (c.fact 57 (f := .noat "System" "posts") rfl)
  na_System_names := He.noat_ok (c.fact 58 (f := .noat "System" "names") rfl)
  na_System_ways := He.noat_ok (c.fact 59 (f := .noat "System" "ways") rfl)
  na_System__requests := He.noat_ok (c.fact 60 (f := .noat "System" "_requests") rfl)
  i_System := init_at (c.fact 61 (f := .mkr "System") rfl) (c.def_ 16 (d := hds_SystemZ_initZ) rfl) (fun _ _ _ _ _ _ us hl => match us, hl with | [_, _, _], _ => rfl)
  m_System_prices := meth_at (c.fact 62 (f := .meth "System" "prices") rfl) (c.def_ 17 (d := hds_System_prices) rfl) (fun _ _ _ _ _ _ us hl => match us, hl with | [_, _], _ => rfl)
abbrev hR : PySem.W.OpenRow := PySem.W.OpenLaw.row PySem.Challenge.rw_hintslie_k06_floors_judged
abbrev hhk : PySem.W.Hook := He.hookD 5 hfa hfn
def hob (s : PySem.W.SharedT) : He.AlD := He.obsDG 5 hfa hfn (HandSHeadRun.getT s)
theorem hob_eq (s : PySem.W.SharedT) : hob s = hhk.obs s.abs := He.obsDG_eq (HandSHeadRun.getT_eq s)
theorem hrun (w : World) : HandSHeadRun.RunEq hR (PySem.W.view hR.prog [45]) hhk hob 6000 hnames w := by
  intro os
  kernel_rfl
theorem facts {P : Program} {w : World} {K : PySem.W.Frag} {h : Heap} {mg : Str → Option Value} {f : Addr} (X : K.In h) (G : h.Ns mainGlobals mg) (hlw : mg ("law" : Str) = some (.ref f)) (c : He.SaysD hfa hfn K) :
    ∃ fd : FuncData, (∀ (s : Shared) (v : Value), BindsTo s fd ⟨[v], []⟩ [("script", v)]) ∧ ∀ base : Heap, K.In base → base.Ns mainGlobals mg → FnOk P w K mg base CX0 9 f fd ["script"] (spLaw K) := by
  obtain ⟨fd, F⟩ := c.def_ 33 (d := hds_law) rfl
  have e := hlw.symm.trans (He.glo_ok X G (c.fact 53 (f := .glo "law") rfl))
  cases e
  have b := FunD.bindsA (ps := ["script"]) F fun _ _ _ _ _ _ us hl => match us, hl with | [_], _ => rfl
  exact ⟨fd, fun s v => b s [v] rfl, fun base _ _ => okf_law (top_of X G c) (fun_of F)⟩
end Toy
open PySem PySem.W PySem.Calls PyProof.Rows
theorem PySem.Challenge.cw_hintslie_k06_floors_judged_holds : PySem.Challenge.rw_hintslie_k06_floors_judged.Holds := by
  w_on; o_law
  refine HandSHeadRun.head_any (r := OpenLaw.row PySem.Challenge.rw_hintslie_k06_floors_judged) (q := view (OpenLaw.row PySem.Challenge.rw_hintslie_k06_floors_judged).prog [45]) (H := Toy.hhk) (ob := Toy.hob) (M := 6000) (loose := Toy.hnames) (d := HandSHeadRun.topDef (OpenLaw.row PySem.Challenge.rw_hintslie_k06_floors_judged).prog 45) (kwd := []) Toy.hob_eq
    (by kernel_rfl) (fun s => by kernel_rfl) Toy.hrun (by kernel_rfl) (by kernel_rfl) (by kernel_rfl) (by rfl) (by first | assumption | decide +kernel) (by decide +kernel) ⟨rfl, rfl, rfl, rfl, rfl, by decide +kernel⟩ ?hw ?hc
  case hw => w_witness2
  case hc =>
    refine L2.walk_ofE (l := PySem.Challenge.rw_hintslie_k06_floors_judged) (n := 63) (k := 9) (x := "script") (CX := L2.CX0) rfl (by decide) (by kernel_rfl) ⟨rfl, by decide, by decide⟩ ?F (fun _ _ _ _ z => z)
    intro w mg fa h Y G hmg0
    obtain ⟨K, KX, c⟩ := Y
    have hmg : mg ("law" : PySem.Str) = some (.ref fa) := by
      have e : (HandSHeadRun.topDef (OpenLaw.row PySem.Challenge.rw_hintslie_k06_floors_judged).prog 45).name = ("law" : PySem.Str) := by kernel_rfl
      rw [← e]
      exact hmg0
    obtain ⟨fd, hb, hF⟩ := Toy.facts (P := (PySem.Challenge.rw_hintslie_k06_floors_judged).prog) (w := w) KX G hmg c
    exact ⟨K, fd, Toy.spLaw K, KX, hb, fun H a ns hl _ hS => ⟨a, ns, rfl, hS, hl, fun _ => rfl⟩, hF⟩

