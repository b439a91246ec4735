import PyProof.Rows.All
import Wide.All
import OpenK.AllK
import Wide.FinOn
import HandS.ForMost
import HandS.OwnEq
import HandS.IsInst
import HandS.Codes
import HandS.Wide
import HandS.Replace
import HandS.NoneIn
import HandS.Flow
import HandS.Style
import KE.GoesZip
import KE.GoesMore
import KE.GoesEnum
import HandS.Walk
import KE.KDictZip
import HandS.DictComp
import HandS.Strs
import HandS.CallLocal
import HandS.NestedK
import HandS.StrMore
import HandS.FStr
import KE.KExcInit
import HandS.ExcInit
import HandS.ExcIs
import HandS.ExcField
import HandS.MakeKw
import PyProof.ExcBaseAll.LookupError
import HandS.RaiseMore
import HandS.TryMany
import HandS.CallSlots
import HandS.ClsMeth
import HandS.Set
import HandS.SetFor
import HandS.More
import PyProof.EqKinds
import HandS.Deep
import HandS.DeepEq
import HandS.Property
import HandS.Star
import KE.KCallOwn
import OpenK.KOps
import PyProof.NeKinds
import HandS.TupLe
import HandS.RevRange
import HandS.Conv
import KE.DataMinKey
import HandS.SortKw
import KE.DataMinMax
import HandS.Text
import KE.SortKeyHeap
import HandS.ExcValue
import KE.KExcLine
import PySem.Challenge.RW_allrows_k61_overlaps_open_or_not
set_option Elab.async false
set_option linter.all false
set_option maxRecDepth 100000
namespace LX
open PySem PySem.Spec PyProof.Rows L2 C8 SX
section
variable {X : Cx}
theorem call_list_str (hc : X.calm = true) : CallR X (.type "list") (fun (xs : List V) (H : Hp) (Q : VK) => ∃ l : List Nat, xs = [V.str (S l)] ∧ l.length ≤ sizeLine ∧ ∀ p, H p = none → Q (.ref p) (upd H p (.lst (l.map fun c => V.str (S [c]))))) := by
  intro pins s σ H xs us Q I r h
  obtain ⟨l, rfl, hl, q⟩ := h
  obtain ⟨u, rfl, ru⟩ := vals1 r
  obtain ⟨t, rfl⟩ := ru
  refine PySem.call_list_str (I.ok.hd hc) (S l) t (fun h' tk acc' c' hk hS hacc => ?_) (by simpa [S] using hl)
  have hv : Vals (l.map fun c => V.str (S [c])) acc'.toList := by
    obtain ⟨hsz, hit⟩ := hacc
    have hsz' : acc'.toList.length = l.length := by simpa using hsz
    have gen : ∀ (m : List Nat) (as : List Value), as.length = m.length → (∀ (j : Nat) (v : Value), as[j]? = some v → ∃ (c : Nat) (u : Tok), m[j]? = some c ∧ v = Value.str ⟨#[c]⟩ u) → Vals (m.map fun c => V.str (S [c])) as := by
      intro m
      induction m with
      | nil => intro as ha _; cases as with
        | nil => exact .nil
        | cons a as => cases ha
      | cons c m ih => intro as ha hh; cases as with
        | nil => cases ha
        | cons a as =>
          obtain ⟨c', u, e1, e2⟩ := hh 0 a rfl
          have : c = c' := Option.some.inj e1
          subst this
          exact .cons ⟨u, e2⟩ (ih as (Nat.succ.inj ha) fun j v e => hh (j + 1) v e)
    refine gen l acc'.toList hsz' fun j v e => ?_
    obtain ⟨c, u, e1, e2⟩ := hit j v (by simpa using e)
    exact ⟨c, u, by simpa [S] using e1, e2⟩
  refine ⟨.ref _, _, I.laid (t' := tk) (o := .lst (l.map fun c => V.str (S [c]))) hk (Nat.le_refl _) ⟨by simpa using hl, acc'.toList, c', hv, by simpa using hS⟩, rfl, q _ (I.hok.fresh (Nat.le_refl _))⟩
theorem op_mul_si : OpR X (binaryOp .Mult) (fun x y H Q => ∃ (z : Str) (k : Int), x = .str z ∧ y = .int k ∧ (k = 0 ∨ k = 1) ∧ Q (.str (if k = 0 then S [] else z)) H) := by
  intro pins s σ H x y v u Q I rx ry h
  obtain ⟨z, k, rfl, rfl, hk, q⟩ := h
  obtain ⟨t, rfl⟩ := rx
  obtain ⟨t', rfl⟩ := ry
  rcases hk with rfl | rfl
  · exact PySem.P.mul_str_none (by decide) (by decide) ⟨.str (S []), H, I.tok _, ⟨_, rfl⟩, q⟩
  · refine PySem.P.mul_str (by decide) (fun _ h => by simp at h) (fun _ h => by simp at h) ?_
    rw [if_neg (by decide), if_pos (by simp)]
    exact ⟨.str z, H, I, ⟨t, rfl⟩, q⟩
def tRevS (te ts : TE) : TE := fun σ H Q => te σ H fun x H1 => ts σ H1 fun y H2 => ∃ i, y = .int i ∧ (some i = some (-1) ∧ ∃ l : List Nat, x = .str (S l) ∧ l.length ≤ sizeLine ∧ Q (.str (S l.reverse)) H2)
theorem rev_indices (z : Str) : (Builtin.Str.strSliceIndices none none (-1) z.length).filterMap (z.cps[·]?) = z.cps.toList.reverse := by
  have e : Builtin.Str.strSliceIndices none none (-1) z.length = (List.range z.length).reverse := by
    show sliceRange ((z.length : Int) - 1) (-1) (-1) = _
    rw [PySem.W.krv_sliceRange]
    exact PySem.W.krv_range _
  rw [e, List.filterMap_reverse]
  exact congrArg List.reverse (PySem.W.krv_all z.cps)
theorem pe_revS {e st : Expr} {te ts : TE} {p3 pos : Pos} (he : PE X e te) (hs : PE X st ts) : PE X (.Subscript e (.Slice none none (some st) p3) pos) (tRevS te ts) := by
  refine ⟨fun pins s σ H Q I h => ?_⟩
  refine Subscript_ (thn (he.run pins s σ H _ I h) fun v s1 ⟨x, H1, I1, r1, q1⟩ => ?_)
  have hst : PO X (some st) (tPart ts) := po_some hs
  refine wpAny_Slice (thn (po_none.run pins s1 σ H1 (fun o H2 => o = none ∧ H2 = H1) I1 ⟨rfl, rfl⟩) fun vl s2 ⟨l, H2, I2, pl, el, e2⟩ => ?_)
  subst el e2
  refine thn (po_none.run pins s2 σ H2 (fun o H3 => o = none ∧ H3 = H2) I2 ⟨rfl, rfl⟩) fun vu s3 ⟨u, H3, I3, pu, eu, e3⟩ => ?_
  subst eu e3
  refine thn (hst.run pins s3 σ H3 (fun o H4 => o = some (-1) ∧ ∃ l : List Nat, x = .str (S l) ∧ l.length ≤ sizeLine ∧ Q (.str (S l.reverse)) H4) I3 q1) fun vs s4 ⟨o, H4, I4, ps, eo, l, ex, hl, q⟩ => ?_
  subst eo ex
  obtain ⟨t, rfl⟩ := r1
  have I5 : Inv X pins σ H4 { s4 with heap := s4.heap.push { cls := .type "slice", data := .fields #[vl, vu, vs] } } := I4.kept (t' := s4.toks) fun b ob q => Heap.get?_push_of_some _ q
  show wpAny (model X.prog X.w) X.A (subscriptTail e (.Slice none none (some st) p3) (.str (S l) t) (.ref s4.heap.objs.size)) (EP X pins σ Q) X.xe { s4 with heap := s4.heap.push { cls := .type "slice", data := .fields #[vl, vu, vs] } }
  obtain ⟨l', el, el2⟩ := IsPart.raw pl
  obtain ⟨u', eu, eu2⟩ := IsPart.raw pu
  obtain ⟨s', es, es2⟩ := IsPart.raw ps
  refine tail_any (ops := [.ref s4.heap.objs.size, .str (S l) t]) (typeIs_str _ _ _) F.slot_str_getitem.lookup ?_ (by with_unfolding_all rfl)
  refine wpAny_getItem_str_slice (l := l') (u := u') (st := s') ?_ (by rw [es2]; rfl) ?_
  · rw [el, eu, es]
    exact Heap.IsSliceOf.new ..
  · unfold sliceMade slicePicked
    rw [el2, eu2, es2]
    show Made.post (if ((-1 : Int) == 1 && (Builtin.Str.strSliceIndices none none (-1) (S l).length).length == (S l).length) = true then Made.val (.str (S l) t)
      else Made.str ⟨((Builtin.Str.strSliceIndices none none (-1) (S l).length).filterMap ((S l).cps[·]?)).toArray⟩) (EP X pins σ Q) _
    rw [if_neg (by simp), rev_indices]
    exact ⟨by simpa [Str.length] using hl, .str _, H4, I5.tok _, ⟨_, rfl⟩, q⟩
end
end LX
namespace LX
open PySem PySem.Spec PyProof.Rows L2 C8 SX
inductive Sr where
  | txt (x : Str) | lst (a : Addr) | tup (a : Addr)
def Sr.fp : Sr → List Addr
  | .txt _ => [] | .lst a => [a] | .tup a => [a]
def Sr.has (K : PySem.W.Frag) : Sr → Nat → Hp → Prop
  | .txt x, i, _ => i < x.cps.size
  | .lst a, i, H => ∃ xs, SqL K H a xs ∧ i < xs.length
  | .tup a, i, H => ∃ xs, SqT K H a xs ∧ i < xs.length
def Sr.val (K : PySem.W.Frag) : Sr → Nat → Hp → V → Prop
  | .txt x, i, _, v => ∃ c, x.cps[i]? = some c ∧ v = .str ⟨#[c]⟩
  | .lst a, i, H, v => ∀ xs, SqL K H a xs → xs[i]? = some v
  | .tup a, i, H, v => ∀ xs, SqT K H a xs → xs[i]? = some v
def Sr.upto (K : PySem.W.Frag) : Sr → Nat → Hp → Prop
  | .txt x, i, _ => i ≤ x.cps.size
  | .lst a, i, H => ∃ xs, SqL K H a xs ∧ i ≤ xs.length
  | .tup a, i, H => ∃ xs, SqT K H a xs ∧ i ≤ xs.length
def Sr.ends (K : PySem.W.Frag) : Sr → Nat → Hp → Prop
  | .txt x, i, _ => i = x.cps.size
  | .lst a, i, H => ∃ xs, SqL K H a xs ∧ i = xs.length
  | .tup a, i, H => ∃ xs, SqT K H a xs ∧ i = xs.length
def Sr.tn : Sr → Addr → Nat → Heap → Prop
  | .txt x, it, i, h => ∃ t, h.IsStrIter it (strIterType x) x t i
  | .lst a, it, i, h => h.IsListIter it a i
  | .tup a, it, i, h => h.IsTupleIter it a i
theorem Sr.tn_obj : ∀ {S : Sr} {it : Addr} {i : Nat} {h : Heap}, S.tn it i h → ∃ o, h.get? it = some o ∧ ∀ v, o.data ≠ .cell v
  | .txt _, _, _, _, ⟨_, o, e, _, d⟩ => ⟨o, e, fun v q => by rw [d] at q; cases q⟩
  | .lst _, _, _, _, h => let ⟨o, e, _, d⟩ := h; ⟨o, e, fun v q => by rw [d] at q; cases q⟩
  | .tup _, _, _, _, ⟨o, e, _, d⟩ => ⟨o, e, fun v q => by rw [d] at q; cases q⟩
theorem Sr.tn_keep : ∀ {S : Sr} {it : Addr} {i : Nat} {h h' : Heap}, S.tn it i h → (∀ o, h.get? it = some o → h'.get? it = some o) → S.tn it i h'
  | .txt _, _, _, _, _, ⟨t, o, e, r⟩, k => ⟨t, o, k o e, r⟩
  | .lst _, _, _, _, _, h, k => h.at k
  | .tup _, _, _, _, _, h, k => h.at k
section
variable {X : Cx} {pins : List (Addr × Obj)} {σ : L2.St} {H : Hp} {s : Shared}
structure DrawsAt (X : Cx) (S : Sr) (H : Hp) (s : Shared) (it : Addr) (i : Nat) (n : Nat) : Prop where
  ex : ∃ (Pp : Nat → Value → Prop) (St : Nat → Heap → Prop), (∀ A : Around, A.handled = none → Draws X.prog X.w A it (it :: S.fp) n Pp St) ∧ St i s.heap ∧
    (∀ u, Pp i u → ∃ v, S.val X.K i H v ∧ RelV v u) ∧ ∀ j h', St j h' → S.tn it j h'
theorem Sr.draws (S : Sr) {it : Addr} {i : Nat} (I : Inv X pins σ H s) (hit : ∀ a ∈ S.fp, a ≠ it) (st : S.tn it i s.heap) (hu : S.upto X.K i H) : ∃ n, DrawsAt X S H s it i n ∧ i ≤ n ∧ (S.has X.K i H → i < n) ∧ (S.ends X.K i H → i = n) := by
  cases S with
  | txt x =>
    obtain ⟨t, st⟩ := st
    refine ⟨x.cps.size, ⟨_, _, fun A hh => Draws.text hh it x t, st, fun u ⟨c, u', e, eu⟩ => ?_, fun j h' q => ⟨t, q⟩⟩, hu, fun h => h, fun h => h⟩
    exact ⟨.str ⟨#[c]⟩, ⟨c, e, rfl⟩, ⟨u', eu⟩⟩
  | lst a =>
    obtain ⟨xs, hx, hu⟩ := hu
    obtain ⟨its, rv, p, _⟩ := I.list hx
    have hl := rv.length
    refine ⟨its.toArray.size, ⟨_, _, fun A hh => Draws.list hh it a (hit a (List.mem_singleton.mpr rfl)) its.toArray, ⟨st, p.isList⟩, fun u hq => ?_, fun j h' q => q.1⟩, by simp; omega, fun ⟨ys, hy, h⟩ => ?_, fun ⟨ys, hy, h⟩ => ?_⟩
    · have hq' : its[i]? = some u := by simpa using hq
      have hlt : i < xs.length := by rw [hl]; exact (List.getElem?_eq_some_iff.mp hq').1
      obtain ⟨u', e, r⟩ := rv.get (List.getElem?_eq_getElem hlt)
      rw [hq'] at e
      rw [Option.some.inj e]
      exact ⟨xs[i], fun zs hz => by rw [I.list_inj hz hx]; exact List.getElem?_eq_getElem hlt, r⟩
    · rw [I.list_inj hy hx] at h; simp; omega
    · rw [I.list_inj hy hx] at h; simp; omega
  | tup a =>
    obtain ⟨xs, hx, hu⟩ := hu
    obtain ⟨its, rv, p, _⟩ := I.tuple hx
    have hl := rv.length
    refine ⟨its.toArray.size, ⟨_, _, fun A hh => Draws.tuple hh it a (hit a (List.mem_singleton.mpr rfl)) its.toArray, ⟨st, p⟩, fun u hq => ?_, fun j h' q => q.1⟩, by simp; omega, fun ⟨ys, hy, h⟩ => ?_, fun ⟨ys, hy, h⟩ => ?_⟩
    · have hq' : its[i]? = some u := by simpa using hq
      have hlt : i < xs.length := by rw [hl]; exact (List.getElem?_eq_some_iff.mp hq').1
      obtain ⟨u', e, r⟩ := rv.get (List.getElem?_eq_getElem hlt)
      rw [hq'] at e
      rw [Option.some.inj e]
      exact ⟨xs[i], fun zs hz => by rw [I.tuple_inj hz hx]; exact List.getElem?_eq_getElem hlt, r⟩
    · rw [I.tuple_inj hy hx] at h; simp; omega
    · rw [I.tuple_inj hy hx] at h; simp; omega
end
def ItzX (K : PySem.W.Frag) (S1 S2 : Sr) : It :=
  ⟨fun i H => S1.has K i H ∧ S2.has K i H,
    fun i H v H' => ∃ T x y, v = .ref T ∧ H T = none ∧ H' = upd H T (.tup [x, y]) ∧ S1.val K i H x ∧ S2.val K i H y,
    fun i H => S1.upto K i H ∧ S2.upto K i H ∧ (S1.ends K i H ∨ S2.ends K i H)⟩
theorem Sr.has_upto {K : PySem.W.Frag} : ∀ {S : Sr} {i : Nat} {H : Hp}, S.has K i H → S.upto K i H
  | .txt _, _, _, h => Nat.le_of_lt h
  | .lst _, _, _, ⟨xs, hx, h⟩ => ⟨xs, hx, Nat.le_of_lt h⟩
  | .tup _, _, _, ⟨xs, hx, h⟩ => ⟨xs, hx, Nat.le_of_lt h⟩
theorem turn_zipX {P : Program} {w : World} {K : PySem.W.Frag} {elts : List Expr} {kk : Nat} {tpos : Pos} {z TI TO i1 i2 : Addr} (S1 S2 : Sr) (D : ZipSep2 z TI TO i1 i2 (i1 :: S1.fp) (i2 :: S2.fp)) (n1 : ∀ a ∈ S1.fp, a ≠ i1) (n2 : ∀ a ∈ S2.fp, a ≠ i2) :
    Turn P w K (.Tuple elts kk tpos) (ItzX K S1 S2) [z, TI, TO, i1, i2] z (fun i h => IsZip h z TI TO .none ∧ IsTupOf2 h TI (.ref i1) (.ref i2) ∧ (∃ x y, IsTupOf2 h TO x y) ∧ S1.tn i1 i h ∧ S2.tn i2 i h) where
  mem := by simp
  obj := fun i h st c hc => by
    obtain ⟨hz, hTI, ⟨x, y, hTO⟩, h1, h2⟩ := st
    have e' : c = z ∨ c = TI ∨ c = TO ∨ c = i1 ∨ c = i2 := by simpa using hc
    rcases e' with q | q | q | q | q
    · rw [q]; exact ⟨_, hz, fun v q => nomatch q⟩
    · rw [q]; exact ⟨_, hTI, fun v q => nomatch q⟩
    · rw [q]; exact ⟨_, hTO, fun v q => nomatch q⟩
    · rw [q]; exact Sr.tn_obj h1
    · rw [q]; exact Sr.tn_obj h2
  keep := fun i h h' st k => by
    obtain ⟨hz, hTI, ⟨x, y, hTO⟩, h1, h2⟩ := st
    exact ⟨k z (by simp) _ hz, k TI (by simp) _ hTI, ⟨x, y, k TO (by simp) _ hTO⟩, Sr.tn_keep h1 fun o q => k i1 (by simp) o q, Sr.tn_keep h2 fun o q => k i2 (by simp) o q⟩
  item := by
    intro X hP hw hK hc i pins s σ H E I hf st hg
    subst hP hw hK
    obtain ⟨hz, hTI, ⟨x0, y0, hTO⟩, h1, h2⟩ := st
    obtain ⟨g1, g2⟩ := hg
    obtain ⟨m1, ⟨P1, St1, D1, st1, v1, t1⟩, _, lt1, _⟩ := S1.draws I n1 h1 (Sr.has_upto g1)
    obtain ⟨m2, ⟨P2, St2, D2, st2, v2, t2⟩, _, lt2, _⟩ := S2.draws I n2 h2 (Sr.has_upto g2)
    have hzl : z < s.heap.objs.size := Heap.lt_size hz
    refine wpAny_pyNext_zipD2_item D (D1 _ (I.ok.hd hc)) (D2 _ (I.ok.hd hc)) hz hTI hTO st1 st2 (lt1 g1) (lt2 g2) fun u1 u2 h' tk p1 p2 z' TO' st1' st2' hT hsz hk => ?_
    obtain ⟨x, hx, rx⟩ := v1 u1 p1
    obtain ⟨y, hy, ry⟩ := v2 u2 p2
    refine ⟨_, rfl, wpAny_letOwnedTupleGo_zip (s := { s with heap := h', toks := tk }) z' fun h'' z'' sb => ?_⟩
    have hT2 : h''.get? s.heap.objs.size = some { cls := .type "tuple", data := .seq #[u1, u2] } := (sb.2 _ (Nat.ne_of_gt hzl)).trans hT
    have new : ObjOk X.prog X.w (upd H s.heap.objs.size (.tup [x, y])) h'' s.heap.objs.size (.tup [x, y]) :=
      ⟨by show 2 ≤ sizeLine; decide, [u1, u2], .cons rx (.cons ry .nil), ⟨_, hT2, rfl, _, rfl⟩⟩
    have I1 : Inv X pins σ (upd H s.heap.objs.size (.tup [x, y])) { s with heap := h'', toks := tk } :=
      I.turnedNew (t' := tk) (ch := [z, TI, TO, i1, i2]) (fun c o hb q => (sb.2 c (fun q' => hb (by simp [q']))).trans (hk c o (fun q' => hb (by simp [q'])) (fun q' => hb (by simp [q'])) (fun q' => hb (by simp [q'])) (fun q' => hb (by simp [q'])) q)) hf (Nat.le_refl _) new
    refine ⟨.ref s.heap.objs.size, _, I1, rfl, ⟨_, x, y, rfl, I.hok.fresh (Nat.le_refl _), rfl, hx, hy⟩, ⟨z'', ?_, ⟨u1, u2, ?_⟩, ?_, ?_⟩, fun c hcm => ?_⟩
    · exact (sb.2 _ D.TIz).trans (hk _ _ D.TIz D.TITO D.TIi1 D.TIi2 hTI)
    · exact (sb.2 _ D.TOz).trans TO'
    · exact Sr.tn_keep (t1 _ _ st1') fun o q => (sb.2 _ D.zi1.symm).trans q
    · exact Sr.tn_keep (t2 _ _ st2') fun o q => (sb.2 _ D.zi2.symm).trans q
    · have hlt : c < s.heap.objs.size := by
        have e' : c = z ∨ c = TI ∨ c = TO ∨ c = i1 ∨ c = i2 := by simpa using hcm
        rcases e' with q | q | q | q | q
        · rw [q]; exact hzl
        · rw [q]; exact Heap.lt_size hTI
        · rw [q]; exact Heap.lt_size hTO
        · rw [q]; obtain ⟨_, e1, _⟩ := Sr.tn_obj h1; exact Heap.lt_size e1
        · rw [q]; obtain ⟨_, e2, _⟩ := Sr.tn_obj h2; exact Heap.lt_size e2
      rw [upd_ne (Nat.ne_of_lt hlt)]
      exact (hf c hcm).1
  done := by
    intro X hP hw hK hc i pins s σ H E I hf st hg
    subst hP hw hK
    obtain ⟨hz, hTI, ⟨x0, y0, hTO⟩, h1, h2⟩ := st
    obtain ⟨g1, g2, ge⟩ := hg
    obtain ⟨m1, ⟨P1, St1, D1, st1, v1, t1⟩, le1, _, eq1⟩ := S1.draws I n1 h1 g1
    obtain ⟨m2, ⟨P2, St2, D2, st2, v2, t2⟩, le2, _, eq2⟩ := S2.draws I n2 h2 g2
    exact wpAny_pyNext_zipD2_end D (D1 _ (I.ok.hd hc)) (D2 _ (I.ok.hd hc)) hz hTI hTO st1 st2 le1 le2 (ge.elim (fun q => .inl (eq1 q)) fun q => .inr (eq2 q)) fun h' tk hk => ⟨rfl, I.turnedL (t' := tk) (ch := [z, TI, TO, i1, i2]) (fun c o hb q =>
      hk c o (fun q' => hb (by simp [q'])) (fun q' => hb (by simp [q'])) (fun q' => hb (by simp [q'])) (fun q' => hb (by simp [q'])) q) hf⟩
  self := fun A i s Q E st h => wpAny_pyIter_zip st.1 h
def Sr.of : V → Sr → Prop
  | .str x, .txt y => x = y
  | .ref a, .lst b => a = b
  | .ref a, .tup b => a = b
  | _, _ => False
def Sr.there (K : PySem.W.Frag) (H : Hp) : Sr → Prop
  | .txt _ => True
  | .lst a => ∃ xs, SqL K H a xs
  | .tup a => ∃ xs, SqT K H a xs
theorem Sr.begins {X : Cx} {pins : List (Addr × Obj)} {σ : L2.St} {H : Hp} {s : Shared} (I : Inv X pins σ H s) {v : V} {u : Value} (r : RelV v u) : ∀ {S : Sr}, S.of v → S.there X.K H → ∃ (o : Obj) (HH : Heap → Prop), Begins u o HH ∧ HH s.heap ∧ (∀ a ∈ S.fp, a < s.heap.objs.size) ∧ ∀ (h : Heap) (it : Addr), h.get? it = some o → S.tn it 0 h
  | .txt y, e, _ => by
    cases v with
    | str x =>
      have e' : x = y := e
      subst e'
      obtain ⟨t, rfl⟩ := r
      exact ⟨_, _, begins_text x t, trivial, (fun _ h => nomatch h), fun h it q => ⟨t, _, q, rfl, rfl⟩⟩
    | _ => exact e.elim
  | .lst b, e, ⟨xs, hx⟩ => by
    cases v with
    | ref a =>
      have e' : a = b := e
      subst e'
      cases r
      obtain ⟨its, rv, p, _⟩ := I.list hx
      refine ⟨_, _, begins_list a its.toArray, p.isList, fun c h => ?_, fun h it q => ⟨_, q, rfl, rfl⟩⟩
      rw [List.mem_singleton.mp h]; exact p.lt
    | _ => exact e.elim
  | .tup b, e, ⟨xs, hx⟩ => by
    cases v with
    | ref a =>
      have e' : a = b := e
      subst e'
      cases r
      obtain ⟨its, rv, p, _⟩ := I.tuple hx
      refine ⟨_, _, begins_tuple a its.toArray, p, fun c h => ?_, fun h it q => ⟨_, q, rfl, rfl⟩⟩
      rw [List.mem_singleton.mp h]; exact p.lt
    | _ => exact e.elim
def iZipX (K : PySem.W.Frag) (ta : TA) : TI := fun σ H R => ta σ H fun vs H1 => ∃ (x y : V) (S1 S2 : Sr), vs = [x, y] ∧ S1.of x ∧ S2.of y ∧ S1.there K H1 ∧ S2.there K H1 ∧ R (ItzX K S1 S2) H1
theorem pi_zipX {X : Cx} {e e2 : Expr} {ta : TA} {p pos tpos : Pos} {elts : List Expr} {kk : Nat} (hg : Gl X "zip") (hm : X.mg "zip" = none) (ha : PA X [e, e2] ta)
    (hs : starEach [e, e2] X.env = (false, eval e X.env) :: starEach [e2] X.env := by rfl) (hpl : (backTo pos (starEach [e2] X.env)).any (·.1) = false := by rfl) :
    PI X (.Tuple elts kk tpos) (.Call (.Name "zip" p) [e, e2] [] pos) (iZipX X.K ta) := by
  refine ⟨fun pins s σ H R I h => ?_⟩
  refine Call_ (ld_blt I hg hm PyProof.Rows.boot_zip (PyProof.Rows.callWith_type1 (thn (ha.run pos pins s σ H _ I h) fun us s1 ⟨vs, H1, I1, r1, q1⟩ => ?_) hs hpl))
  obtain ⟨x, y, S1, S2, ex, e1, e2, th1, th2, q⟩ := q1
  subst ex
  obtain ⟨u, u', rfl, r, r'⟩ := vals2 r1
  obtain ⟨o1, HH1, B1, b1, f1, t1⟩ := Sr.begins I1 r e1 th1
  obtain ⟨o2, HH2, B2, b2, f2, t2⟩ := Sr.begins I1 r' e2 th2
  have fresh5 : ∀ c, c ∈ [s1.heap.objs.size + 4, s1.heap.objs.size + 2, s1.heap.objs.size + 3, s1.heap.objs.size, s1.heap.objs.size + 1] → FpOk X pins H1 c := fun c hcm => by
    have e' : c = s1.heap.objs.size + 4 ∨ c = s1.heap.objs.size + 2 ∨ c = s1.heap.objs.size + 3 ∨ c = s1.heap.objs.size ∨ c = s1.heap.objs.size + 1 := by simpa using hcm
    have hle : s1.heap.objs.size ≤ c := by
      rcases e' with z | z | z | z | z
      · rw [z]; exact Nat.le_add_right _ _
      · rw [z]; exact Nat.le_add_right _ _
      · rw [z]; exact Nat.le_add_right _ _
      · rw [z]; exact Nat.le_refl _
      · rw [z]; exact Nat.le_add_right _ _
    exact I1.fpOk hle (I1.hok.fresh hle)
  refine zip_begins2 B1 B2 b1 b2 fun h' hz hTI hTO h1 h2 hsz hk => wpAny_pyIter_zip hz ?_
  have I2 : Inv X pins σ H1 { s1 with heap := h' } := I1.kept (t' := s1.toks) hk
  exact ⟨s1.heap.objs.size + 4, [s1.heap.objs.size + 4, s1.heap.objs.size + 2, s1.heap.objs.size + 3, s1.heap.objs.size, s1.heap.objs.size + 1], _, _, H1, rfl, I2,
    turn_zipX S1 S2 (PySem.zip_sep2 f1 f2) (fun a ha => Nat.ne_of_lt (f1 a ha)) (fun a ha => Nat.ne_of_lt (Nat.lt_succ_of_lt (f2 a ha))), ⟨hz, hTI, ⟨_, _, hTO⟩, t1 _ _ h1, t2 _ _ h2⟩, fresh5, q⟩
end LX
namespace LX
open PySem PySem.Spec PyProof.Rows L2 C8 SX
section
variable {prog : Program} {w : World} {A : Around} {E : Value → Shared → Prop} {s : Shared} {K : PySem.W.Frag} {x y C L f : Addr} {h₀ : Heap} {m : Str → Option Value} {ox : Obj} {od : Option Obj}
theorem objNe_own (X : K.In s.heap) (I : PySem.W.InstAt s.heap x ox C od) (hs : PySem.W.findIn K (.ref C) "__eq__" = some (some (.ref f))) (hf : PySem.W.isFn K (.ref f) = true) (hu : A.units < cLine) {Q : Fin → Shared → Prop}
    (hcall : wpAny (model prog w) A (call (.ref f) [.ref x, .ref y]) (fun v s' => ∃ b, v = .bool b ∧ Q (.done (.ret (.bool (!b)))) s') E s) :
    wpAny (model prog w) A (Builtin.«object.__ne__» ⟨[.ref x, .ref y], []⟩) Q E s := by
  unfold Builtin.«object.__ne__»
  repeat (first
    | with_reducible refine wpAny_cRoomFor hu ?_
    | (refine wpAny_bind (m := callSpecialIfBound? (.ref x) (Str.ofString "__eq__") [.ref y])
        (PySem.W.ifBound_K X I hs hf (wpAny_mono hcall (fun r s' hr => by
          obtain ⟨b, rfl, hq⟩ := hr
          repeat (first | exact hq | exact wpAny_pure hq | exact wpAny_truthy_bool hq | (refine wpAny_bind (m := truthy (.bool _)) (wpAny_truthy_bool ?_)) | wp_step)) fun _ _ e => e)))
    | wp_step)
theorem ifBound_ne {M : Model} {args : List Value} {Q : Option Value → Shared → Prop} (X : K.In s.heap) (I : PySem.W.InstAt s.heap x ox C od) (hs : PySem.W.findIn K (.ref C) "__ne__" = some (some (.builtin "object.__ne__")))
    (h : wpAny M A (call (.builtin "object.__ne__") (.ref x :: args)) (fun v => Q (some v)) E s) : wpAny M A (callSpecialIfBound? (.ref x) "__ne__" args) Q E s := by
  simp only [callSpecialIfBound?, bindSpecialIfBound?]
  refine wpAny_holding (wpAny_bind (wpAny_bind (wpAny_bind (I.type.here ((PySem.W.looks_findIn X hs).here ?_)))))
  simp only [F.cmp_object.ne.bind]
  refine wpAny_bind (wpAny_askSetting (wpAny_ite ?_))
  have fin : wpAny M A (call (.builtin "object.__ne__") ([.ref x] ++ args) >>= fun v => pure (some v)) Q E s := wpAny_bind (wpAny_mono h (fun v s' h' => wpAny_pure h') fun _ _ h' => h')
  split
  · exact wpAny_bind (wpAny_pure (wpAny_pure fin))
  · exact wpAny_tryCatch (wpAny_bind (wpAny_pure (wpAny_pure fin)))
theorem check_ne {M : Model} {Q : Unit → Shared → Prop} (X : K.In s.heap) (I : PySem.W.InstAt s.heap x ox C od) (hm : PySem.W.mroIn K C (.type "object") = some true) (hq : Q () s) :
    wpAny M A (checkBuiltinCall "object.__ne__" ⟨[.ref x, .ref y], []⟩) Q E s := by
  have L0 := I.type (M := M)
  have L1 := PySem.W.looks_mroIn (M := M) X hm
  simp only [checkBuiltinCall, F.cmpKind_ne, F.cmpSplit_ne]
  have ha := F.cmpArgs_ne (.ref x) (.ref y)
  refine wpAny_bind ?_
  unfold isInstance
  repeat lk
  exact hq
theorem rcNe_own (hu : A.units + 1 < cLine) (FF : Fr h₀ L s.heap m) (X₀ : K.In h₀) (I : PySem.W.InstAt s.heap x ox C od) (hb : PySem.W.Looks (model prog w) s.heap (typeOf (.ref y)) (.ref C))
    (hs : PySem.W.findIn K (.ref C) "__eq__" = some (some (.ref f))) (hf : PySem.W.isFn K (.ref f) = true) (hn : PySem.W.findIn K (.ref C) "__ne__" = some (some (.builtin "object.__ne__"))) (hm : PySem.W.mroIn K C (.type "object") = some true)
    {Q : Value → Shared → Prop} (hcall : wpAny (model prog w) A.in1 (call (.ref f) [.ref x, .ref y]) (fun v s' => ∃ b, v = .bool b ∧ Q (.bool (!b)) s') E s) :
    wpAny (model prog w) A (richCompare .NotEq (.ref x) (.ref y)) Q E s := by
  have X := X₀.keeps FF.keep
  have one : wpAny (model prog w) A (tryCompare (.ref x) (cmpInfo .NotEq).2.1 (.ref y)) (fun r s' => ∃ v, r = some v ∧ Q v s') E s := by
    show wpAny (model prog w) A (tryCompare (.ref x) "__ne__" (.ref y)) (fun r s' => ∃ v, r = some v ∧ Q v s') E s
    unfold tryCompare
    refine wpAny_bind (ifBound_ne X I hn (wpAny_call (codeAny_call_builtin F.cmp_object.ne.plain F.cmpEntry_ne (check_ne X I hm (objNe_own (A := A.in1) X I hs hf (by show A.units + 1 < cLine; exact hu) (wpAny_mono hcall (fun v s' hv => ?_) fun _ _ e => e))))))
    obtain ⟨b, rfl, hq⟩ := hv
    first | exact ⟨b, rfl, wpAny_pure ⟨_, rfl, hq⟩⟩ | exact ⟨b, rfl, wpAny_pure (wpAny_pure ⟨_, rfl, hq⟩)⟩ | exact ⟨b, rfl, ⟨_, rfl, hq⟩⟩
  unfold richCompare
  simp only [oneThing_ref]
  refine wpAny_holding (wpAny_bind (wpAny_cRoomFor (by omega) ?_))
  refine wpAny_bind (I.type.here (wpAny_bind (hb.here ?_)))
  rw [show (Value.ref C != Value.ref C) = false from by simp]
  simp only [Bool.false_eq_true, if_false]
  refine wpAny_bind (wpAny_pure ?_)
  simp only [Bool.false_eq_true, if_false]
  refine wpAny_bind (wpAny_mono one (fun r s' z => ?_) fun _ _ e => e)
  obtain ⟨v, rfl, hq⟩ := z
  first | exact wpAny_pure hq | exact hq
end
section
variable {X : Cx} {k j : Nat} {C : Addr} {sp : Sp}
theorem met_run {mth : Str} {pins : List (Addr × Obj)} {σ : L2.St} {H : Hp} {s : Shared} {A : Around} {a b : Addr} {Q : Value → Shared → Prop} (c : Met X.prog X.w X.K X.mg X.base k C mth sp []) (hr : Room k A) (hfr : A.frames = X.A.frames) (I : Inv X pins σ H s)
    {R : VK} (hsp : sp [.ref a, .ref b] H R C8.E0) (hQ : ∀ v z H' s', Inv X pins σ H' s' → RelV z v → R z H' → Q v s') :
    ∃ f, PySem.W.findIn X.K (.ref C) mth = some (some (.ref f)) ∧ PySem.W.isFn X.K (.ref f) = true ∧ wpAny (model X.prog X.w) A (call (.ref f) [.ref a, .ref b]) Q X.xe s := by
  obtain ⟨f, fd, ps, ds, hc, hm, F, hb, hd⟩ := c.ex
  refine ⟨f, hm.at_, hm.fn, ?_⟩
  have e0 : Env0 X.prog X.w X.K X.mg X.base A X.stack s H := by
    have e := I.env0
    exact ⟨by rw [hfr]; exact e.frames, e.mod, e.bs, e.bsz, e.funs, e.frf, e.hok, e.bare⟩
  have hds : ds = [] := by cases hd; rfl
  subst hds
  have hl := F.len _ _ _ _ hsp
  have r2 : Vals [V.ref a, V.ref b] [Value.ref a, Value.ref b] := .cons rfl (.cons rfl .nil)
  refine wpAny_call (codeAny_mono (F.run A X.stack s H ⟨[.ref a, .ref b], []⟩ [.ref a, .ref b] [.ref a, .ref b] _ C8.E0 hr e0 (by
    have := hb s [.ref a, .ref b] I.kIn (by simpa using hl)
    simpa using this) r2 hsp) fun r s' hq => ?_)
  cases r with
  | error e => exact C8.pass0 (E := C8.E0) pins σ H s e s' I hq
  | ok fl =>
    cases fl with
    | ret w =>
      obtain ⟨z, H', I', rz, q⟩ := I.after hq
      exact hQ w z H' s' I' rz q
    | next => exact False.elim hq
    | brk => exact False.elim hq
    | cont => exact False.elim hq
structure NeC (K : PySem.W.Frag) (C : Addr) : Prop where
  ne : PySem.W.findIn K (.ref C) "__ne__" = some (some (.builtin "object.__ne__"))
  ob : PySem.W.mroIn K C (.type "object") = some true
  sf : PySem.W.selfFirst K C = true
def rEqI (C : Addr) (sp : Sp) : R2 := fun x y H Q => ∃ a b dx dy fs gs, x = .ref a ∧ y = .ref b ∧ H a = some (.ins C dx fs) ∧ H b = some (.ins C dy gs) ∧ sp [.ref a, .ref b] H (fun v H' => ∃ r, v = .bl r ∧ Q (.bl r) H') C8.E0
def rNeI (C : Addr) (sp : Sp) : R2 := fun x y H Q => ∃ a b dx dy fs gs, x = .ref a ∧ y = .ref b ∧ H a = some (.ins C dx fs) ∧ H b = some (.ins C dy gs) ∧ sp [.ref a, .ref b] H (fun v H' => ∃ r, v = .bl r ∧ Q (.bl (!r)) H') C8.E0
def rOpI (C : Addr) (sp : Sp) : R2 := fun x y H Q => ∃ a b dx dy fs gs, x = .ref a ∧ y = .ref b ∧ H a = some (.ins C dx fs) ∧ H b = some (.ins C dy gs) ∧ sp [.ref a, .ref b] H (fun v H' => ∃ p, v = .ref p ∧ Q (.ref p) H') C8.E0
theorem op_eqI (c : Met X.prog X.w X.K X.mg X.base k C "__eq__" sp []) (hr : Room j X.A) (hk : k ≤ j) : OpR X (compareOp .Eq) (rEqI C sp) := by
  intro pins s σ H x y v u Q I rx ry h
  obtain ⟨a, b, dx, dy, fs, gs, rfl, rfl, ha, hb, hsp⟩ := h
  cases rx
  cases ry
  obtain ⟨mA, J, _⟩ := ins_get I.hok ha
  obtain ⟨mB, J', _⟩ := ins_get I.hok hb
  obtain ⟨od, J, _⟩ := J.look
  obtain ⟨od', J', _⟩ := J'.look
  obtain ⟨m, hF⟩ := I.fr
  obtain ⟨f, hs, hf, hw⟩ := met_run (Q := PySem.W.CmpBack (EP X pins σ Q)) c (hr.mono hk) rfl I hsp (fun v z H' s' I' rz q => by
    obtain ⟨r, rfl, q⟩ := q
    cases rz
    exact ⟨.bl r, H', I', rfl, q⟩)
  exact PySem.W.cmp_K (op := .Eq) (tb := .ref C) hr.units0 hF I.ok.mod.kin J J'.type (by simp [PySem.W.notFirst]) hs hf hw
theorem op_neI (n : NeC X.K C) (c : Met X.prog X.w X.K X.mg X.base k C "__eq__" sp []) (hr : Room j X.A) (hk : k + 1 ≤ j) : OpR X (compareOp .NotEq) (rNeI C sp) := by
  intro pins s σ H x y v u Q I rx ry h
  obtain ⟨a, b, dx, dy, fs, gs, rfl, rfl, ha, hb, hsp⟩ := h
  cases rx
  cases ry
  obtain ⟨mA, J, _⟩ := ins_get I.hok ha
  obtain ⟨mB, J', _⟩ := ins_get I.hok hb
  obtain ⟨od, J, _⟩ := J.look
  obtain ⟨od', J', _⟩ := J'.look
  obtain ⟨m, hF⟩ := I.fr
  obtain ⟨f, hs, hf, hw⟩ := met_run (Q := fun v s' => ∃ b, v = .bool b ∧ EP X pins σ Q (.bool (!b)) s') c (hr.mono hk).in1 rfl I hsp (fun v z H' s' I' rz q => by
    obtain ⟨r, rfl, q⟩ := q
    cases rz
    exact ⟨r, rfl, .bl (!r), H', I', rfl, q⟩)
  exact rcNe_own (hu_of hr) hF I.ok.mod.kin J J'.type hs hf n.ne n.ob hw
theorem op_mulI (n : NeC X.K C) (c : Met X.prog X.w X.K X.mg X.base k C "__mul__" sp []) (hr : Room j X.A) (hk : k ≤ j) : OpR X (binaryOp .Mult) (rOpI C sp) := by
  intro pins s σ H x y v u Q I rx ry h
  obtain ⟨a, b, dx, dy, fs, gs, rfl, rfl, ha, hb, hsp⟩ := h
  cases rx
  cases ry
  obtain ⟨mA, J, _⟩ := ins_get I.hok ha
  obtain ⟨mB, J', _⟩ := ins_get I.hok hb
  obtain ⟨od, J, _⟩ := J.look
  obtain ⟨od', J', _⟩ := J'.look
  obtain ⟨m, hF⟩ := I.fr
  obtain ⟨f, hs, hf, hw⟩ := met_run (Q := PySem.W.CmpBack (EP X pins σ Q)) c (hr.mono hk) rfl I hsp (fun v z H' s' I' rz q => by
    obtain ⟨p, rfl, q⟩ := q
    cases rz
    exact ⟨.ref p, H', I', rfl, q⟩)
  exact PySem.W.binop_K (op := .Mult) hF I.ok.mod.kin J J'.type n.sf hs hf hw
theorem op_addI (n : NeC X.K C) (c : Met X.prog X.w X.K X.mg X.base k C "__add__" sp []) (hr : Room j X.A) (hk : k ≤ j) : OpR X (binaryOp .Add) (rOpI C sp) := by
  intro pins s σ H x y v u Q I rx ry h
  obtain ⟨a, b, dx, dy, fs, gs, rfl, rfl, ha, hb, hsp⟩ := h
  cases rx
  cases ry
  obtain ⟨mA, J, _⟩ := ins_get I.hok ha
  obtain ⟨mB, J', _⟩ := ins_get I.hok hb
  obtain ⟨od, J, _⟩ := J.look
  obtain ⟨od', J', _⟩ := J'.look
  obtain ⟨m, hF⟩ := I.fr
  obtain ⟨f, hs, hf, hw⟩ := met_run (Q := PySem.W.CmpBack (EP X pins σ Q)) c (hr.mono hk) rfl I hsp (fun v z H' s' I' rz q => by
    obtain ⟨p, rfl, q⟩ := q
    cases rz
    exact ⟨.ref p, H', I', rfl, q⟩)
  exact PySem.W.binop_K (op := .Add) hF I.ok.mod.kin J J'.type n.sf hs hf hw
end
end LX
namespace LX
open PySem PySem.Spec PyProof.Rows L2 C8 SX
section
variable {X : Cx} {K : PySem.W.Frag} {H : Hp}
def txs (xs : List (List Nat)) : List V := xs.map fun l => V.str (S l)
theorem txs_len (xs : List (List Nat)) : (txs xs).length = xs.length := List.length_map ..
theorem dp_strs : ∀ xs : List (List Nat), DpAll K H (txs xs) (xs.map fun l => PyData.str (S l))
  | [] => .nil
  | x :: xs => .cons (.str _) (dp_strs xs)
theorem eqv_strs : ∀ xs ys : List (List Nat), PyData.eqvAll (xs.map fun l => PyData.str (S l)) (ys.map fun l => PyData.str (S l)) = decide (xs = ys)
  | [], [] => rfl
  | [], _ :: _ => rfl
  | _ :: _, [] => rfl
  | x :: xs, y :: ys => by
    show (S x == S y && PyData.eqvAll (xs.map fun l => PyData.str (S l)) (ys.map fun l => PyData.str (S l))) = _
    rw [S_beq_eq, eqv_strs xs ys, ← Bool.decide_and]
    exact decide_eq_decide.mpr (by rw [List.cons.injEq])
def Small (xs : List (List Nat)) : Prop := ∀ l ∈ xs, ∀ c ∈ l, c < 1114112
theorem lay_strs : ∀ {xs : List (List Nat)}, Small xs → PyData.canLayAll0 (xs.map fun l => PyData.str (S l)) = true ∧ PyData.depthAll (xs.map fun l => PyData.str (S l)) ≤ 1
  | [], _ => ⟨rfl, Nat.zero_le _⟩
  | x :: xs, h => by
    obtain ⟨h1, h2⟩ := lay_strs (xs := xs) fun l hl => h l (List.mem_cons_of_mem _ hl)
    refine ⟨?_, ?_⟩
    · show (PyData.canLay0 (.str (S x)) && PyData.canLayAll0 (xs.map fun l => PyData.str (S l))) = true
      rw [h1, Bool.and_true]
      show (S x).cps.all (· < 0x110000) = true
      rw [← Array.all_toList, List.all_eq_true]
      exact fun c hc => decide_eq_true (h x List.mem_cons_self c hc)
    · show max (PyData.depth (.str (S x))) (PyData.depthAll (xs.map fun l => PyData.str (S l))) ≤ 1
      have e : PyData.depth (.str (S x)) ≤ 1 := Nat.zero_le _
      omega
theorem shaped_lst {xs : List (List Nat)} (h : Small xs) : SeqAt.shaped (.list (xs.map fun l => PyData.str (S l))) = true := by
  obtain ⟨h1, h2⟩ := lay_strs h
  show (PyData.canLayAll0 _ && decide (PyData.depthAll _ + 1 ≤ 64)) = true
  rw [h1, Bool.true_and, decide_eq_true_eq]; omega
theorem shaped_tup {xs : List (List Nat)} (h : Small xs) : SeqAt.shaped (.tuple (xs.map fun l => PyData.str (S l))) = true := by
  obtain ⟨h1, h2⟩ := lay_strs h
  show (PyData.canLayAll0 _ && decide (PyData.depthAll _ + 1 ≤ 64)) = true
  rw [h1, Bool.true_and, decide_eq_true_eq]; omega
def rSs (K : PySem.W.Frag) (f : Bool → Bool) : R2 := fun x y H Q => ∃ (a b : Addr) (xs ys : List (List Nat)), x = .ref a ∧ y = .ref b ∧ ((SqL K H a (txs xs) ∧ SqL K H b (txs ys)) ∨ (SqT K H a (txs xs) ∧ SqT K H b (txs ys))) ∧ Small xs ∧ Small ys ∧ Q (.bl (f (decide (xs = ys)))) H
theorem op_eqSs {k : Nat} (hr : Room k X.A) : OpR X (compareOp .Eq) (rSs X.K fun b => b) := by
  intro pins s σ H x y v u Q I rx ry h
  obtain ⟨a, b, xs, ys, rfl, rfl, hh, hx, hy, q⟩ := h
  rcases hh with ⟨h1, h2⟩ | ⟨h1, h2⟩
  · exact op_eqD hr.units pins s σ H _ _ v u Q I rx ry ⟨_, _, .lst h1 (dp_strs xs), .lst h2 (dp_strs ys), shaped_lst hx, shaped_lst hy, by rw [show PyData.eqv (.list (xs.map fun l => PyData.str (S l))) (.list (ys.map fun l => PyData.str (S l))) = _ from eqv_strs xs ys]; exact q⟩
  · exact op_eqD hr.units pins s σ H _ _ v u Q I rx ry ⟨_, _, .tup h1 (dp_strs xs), .tup h2 (dp_strs ys), shaped_tup hx, shaped_tup hy, by rw [show PyData.eqv (.tuple (xs.map fun l => PyData.str (S l))) (.tuple (ys.map fun l => PyData.str (S l))) = _ from eqv_strs xs ys]; exact q⟩
theorem op_neSs {k : Nat} (hr : Room k X.A) : OpR X (compareOp .NotEq) (rSs X.K fun b => !b) := by
  intro pins s σ H x y v u Q I rx ry h
  obtain ⟨a, b, xs, ys, rfl, rfl, hh, hx, hy, q⟩ := h
  rcases hh with ⟨h1, h2⟩ | ⟨h1, h2⟩
  · exact op_neD hr.units pins s σ H _ _ v u Q I rx ry ⟨_, _, .lst h1 (dp_strs xs), .lst h2 (dp_strs ys), shaped_lst hx, shaped_lst hy, by rw [show PyData.eqv (.list (xs.map fun l => PyData.str (S l))) (.list (ys.map fun l => PyData.str (S l))) = _ from eqv_strs xs ys]; exact q⟩
  · exact op_neD hr.units pins s σ H _ _ v u Q I rx ry ⟨_, _, .tup h1 (dp_strs xs), .tup h2 (dp_strs ys), shaped_tup hx, shaped_tup hy, by rw [show PyData.eqv (.tuple (xs.map fun l => PyData.str (S l))) (.tuple (ys.map fun l => PyData.str (S l))) = _ from eqv_strs xs ys]; exact q⟩
end
theorem occ_idx {l : List Nat} {c : Nat} (h : c ∈ l) : ∃ r, Builtin.Str.occurrences (S l) (S [c]) 0 (S l).length 1 = l.idxOf c :: r := by
  have hlt := List.idxOf_lt_length_of_mem h
  have hat : StrLaws.At (S l) (S [c]) (S l).length (l.idxOf c) := (StrLaws.subAt_one (S l) c _).mpr (by show l[l.idxOf c]? = some c; rw [List.getElem?_eq_getElem hlt, List.getElem_idxOf hlt])
  rcases StrLaws.occ_head (S l) (S [c]) 1 (Nat.le_refl _) with ⟨_, hn⟩ | ⟨i, r, e, ha, hn⟩
  · exact absurd hat (hn _)
  · refine ⟨r, ?_⟩
    have hi : l[i]? = some c := (StrLaws.subAt_one (S l) c i).mp ha
    have h1 : ¬ l.idxOf c < i := fun z => hn _ z hat
    have h2 : ¬ i < l.idxOf c := fun z => by
      obtain ⟨hl, e⟩ := List.getElem?_eq_some_iff.mp hi
      have q := List.not_of_lt_findIdx (p := (· == c)) (xs := l) z
      simp [e] at q
    have : i = l.idxOf c := by omega
    rw [e, this]
structure Keep (Rel : Hp → Hp → Prop) (H1 : Hp) : Prop where
  refl : Rel H1 H1
  trans : ∀ H H', Rel H1 H → Rel H H' → Rel H1 H'
  put : ∀ H D o, Rel H1 H → H1 D = none → Rel H1 (upd H D o)
  get : ∀ H H' D o, Rel H H' → H1 D = none → Rel H1 H → H D = some o → H' D = some o
theorem keep_same {H1 : Hp} : Keep Same H1 where
  refl := Same.refl _
  trans := fun _ _ a b => a.trans b
  put := fun H D o s hD b u e => by rw [upd_ne (ne_of_none e hD)]; exact s b u e
  get := fun H H' D o s _ _ e => s _ _ e
def Bk (Pb : HO → Prop) (b : Addr) (H H' : Hp) : Prop := (∀ a o, a ≠ b → H a = some o → H' a = some o) ∧ ∃ o, H' b = some o ∧ Pb o
theorem keep_bk {Pb : HO → Prop} {b : Addr} {H1 : Hp} (h : ∃ o, H1 b = some o ∧ Pb o) : Keep (Bk Pb b) H1 where
  refl := ⟨fun _ _ _ e => e, h⟩
  trans := fun _ _ p q => ⟨fun a o n e => q.1 a o n (p.1 a o n e), q.2⟩
  put := fun H D o s hD => by
    obtain ⟨o1, e1, _⟩ := h
    refine ⟨fun a u n e => by rw [upd_ne (ne_of_none e hD)]; exact s.1 a u n e, ?_⟩
    rw [upd_ne (ne_of_none e1 hD)]
    exact s.2
  get := fun H H' D o s hD _ e => by
    obtain ⟨o1, e1, _⟩ := h
    exact s.1 D o (ne_of_none e1 hD).symm e
theorem bk_same {Pb : HO → Prop} {b : Addr} {H H' : Hp} (s : Same H H') (h : ∃ o, H b = some o ∧ Pb o) : Bk Pb b H H' := ⟨fun a o _ e => s a o e, let ⟨o, e, p⟩ := h; ⟨o, s b o e, p⟩⟩
theorem sm_put {H H' : Hp} {p : Addr} {o : HO} (s : Same H H') (h : H p = none) : Same H (upd H' p o) := fun b u e => by rw [upd_ne (ne_of_none e h)]; exact s b u e
theorem sm_put' {H H' : Hp} {p : Addr} {o : HO} (s : Same H H') (h : H' p = none) : Same H (upd H' p o) := sm_put s (s.free h)
theorem sm_new {H : Hp} {p : Addr} {o : HO} (h : H p = none) : Same H (upd H p o) := sm_put (Same.refl H) h
theorem sm_seqT {K : PySem.W.Frag} {H H' : Hp} {a : Addr} {xs : List V} (e : Same H H') (h : SqT K H a xs) : SqT K H' a xs :=
  h.elim (fun h => .inl (h.elim (fun h => .inl (e _ _ h)) fun ⟨o, h⟩ => .inr ⟨o, e _ _ h⟩)) fun h => .inr h
theorem bk_seq {Pb : HO → Prop} {K : PySem.W.Frag} {b : Addr} {H H' : Hp} {a : Addr} {xs : List V} (e : Bk Pb b H H') (n : a ≠ b) (h : SqL K H a xs) : SqL K H' a xs := by
  rcases h with (h | ⟨o, h⟩) | h
  · exact .inl (.inl (e.1 _ _ n h))
  · exact .inl (.inr ⟨o, e.1 _ _ n h⟩)
  · exact .inr h
theorem lc_keep {Rel : Hp → Hp → Prop} {J : It} {n : Nat} {G : Hp → Prop} {Y : Nat → Hp → V → Hp → Prop} {H1 : Hp} (kp : Keep Rel H1) (w : Walk J n G Y) {g : TG} {te : TE} {vs : List Nat} {σ : L2.St} {D : Addr} {Qd : Hp → Prop} (hD : H1 D = none) (hn : n < sizeLine)
    (Good : Nat → V → Prop) (hG : ∀ H, Rel H1 H → G H)
    (hs : ∀ i x H H' (R : V → Hp → Prop), i < n → Rel H1 H → Y i H x H' → (∀ y H4, Rel H H4 → Good i y → R y H4) → g x (wipe σ vs) H' fun σ2 H2 => wipe σ2 vs = wipe σ vs ∧ te σ2 H2 R)
    (hd : ∀ ys H, ys.length = n → (∀ (j : Nat) y, ys[j]? = some y → Good j y) → Rel H1 H → H D = some (.lst ys) → Qd H) :
    ∃ W : Nat → Nat → Hp → Prop, (∃ m, W 0 m (upd H1 D (.lst []))) ∧ ∀ i m H, W i m H →
      (J.stop i H ∧ Qd H) ∨ (J.go i H ∧ ∃ Nx : Hp → Prop, (∀ H', Nx H' → ∃ m', m' < m ∧ W (i + 1) m' H') ∧ ∀ x H', J.yld i H x H' → g x (wipe σ vs) H' fun σ2 H2 => wipe σ2 vs = wipe σ vs ∧ tYes σ2 H2 fun b H3 =>
        if b = true then te σ2 H3 fun y H4 => ∃ acc, H4 D = some (.lst acc) ∧ acc.length < sizeLine ∧ Nx (upd H4 D (.lst (acc ++ [y]))) else Nx H3) := by
  refine lc_it w (fun i H => ∃ acc, acc.length = i ∧ H D = some (.lst acc) ∧ Rel H1 H ∧ ∀ (j : Nat) y, acc[j]? = some y → Good j y) ⟨[], rfl, upd_same, kp.put _ _ _ kp.refl hD, fun j y e => by simp at e⟩ (fun i H _ ⟨_, _, _, r, _⟩ => hG H r) (fun i x H H' hi ⟨acc, hl, hDa, r, hg⟩ hy => ?_) (fun H ⟨acc, hl, hDa, r, hg⟩ => hd acc H hl hg r hDa)
  refine hs i x H H' _ hi r hy fun y H4 r4 gy => ?_
  refine ⟨acc, kp.get _ _ _ _ r4 hD r hDa, by omega, acc ++ [y], by simp [hl], upd_same, kp.put _ _ _ (kp.trans _ _ r r4) hD, fun j z e => ?_⟩
  rcases Nat.lt_or_ge j acc.length with h | h
  · rw [List.getElem?_append_left h] at e
    exact hg j z e
  · rw [List.getElem?_append_right h] at e
    have hj : j - acc.length = 0 := by
      rcases Nat.lt_or_ge (j - acc.length) 1 with z | z
      · omega
      · rw [List.getElem?_eq_none (by simpa using z)] at e; cases e
    rw [hj] at e
    have : y = z := Option.some.inj e
    subst this
    have : j = i := by omega
    subst this
    exact gy
theorem list_of {α : Type} {ys : List α} {n : Nat} {f : Nat → α} (hl : ys.length = n) (h : ∀ (j : Nat) y, ys[j]? = some y → y = f j) : ys = (List.range n).map f := by
  apply List.ext_getElem
  · simp [hl]
  · intro i h1 h2
    rw [List.getElem_map, List.getElem_range]
    exact h i _ (List.getElem?_eq_getElem h1)
theorem list_map {α β : Type} {ys : List β} {xs : List α} {f : α → β} (hl : ys.length = xs.length) (h : ∀ (j : Nat) y x, ys[j]? = some y → xs[j]? = some x → y = f x) : ys = xs.map f := by
  apply List.ext_getElem
  · simp [hl]
  · intro i h1 h2
    rw [List.getElem_map]
    exact h i _ _ (List.getElem?_eq_getElem h1) (List.getElem?_eq_getElem (by omega))
end LX
namespace LX
open PySem PySem.Spec PyProof.Rows L2 C8 SX
section
variable {X : Cx}
theorem ixl (K : PySem.W.Frag) (h : X.K = K := by rfl) : IxR X (rIxL K) := by subst h; exact ix_list
theorem ixt (K : PySem.W.Frag) (h : X.K = K := by rfl) : IxR X (rIxT K) := by subst h; exact ix_tup
theorem lenK (K : PySem.W.Frag) (h : X.K = K := by rfl) : CallR X (.builtin "len") (fun xs H Q => ∃ p ys, xs = [.ref p] ∧ (SqL K H p ys ∨ SqT K H p ys) ∧ Q (.int ys.length) H) := by subst h; exact call_len_seq
theorem listK (K : PySem.W.Frag) (h : X.K = K := by rfl) : CallR X (.type "list") (fun xs H Q => ∃ p ys, xs = [.ref p] ∧ (SqL K H p ys ∨ SqT K H p ys) ∧ ∀ l, H l = none → Q (.ref l) (upd H l (.lst ys))) := by subst h; exact call_list_of
theorem tupleK (K : PySem.W.Frag) (h : X.K = K := by rfl) : CallR X (.type "tuple") (fun xs H Q => ∃ p ys, xs = [.ref p] ∧ ((SqL K H p ys ∧ ∀ l, H l = none → Q (.ref l) (upd H l (.tup ys))) ∨ (SqT K H p ys ∧ Q (.ref p) H))) := by subst h; exact call_tuple_of
theorem isiK (K : PySem.W.Frag) (h : X.K = K := by rfl) : CallR X (.builtin "isinstance") (rIsi K) := by subst h; exact call_isi
theorem isiTK (K : PySem.W.Frag) (h : X.K = K := by rfl) : CallR X (.builtin "isinstance") (rIsiT K) := by subst h; exact call_isiT
theorem fldK (K : PySem.W.Frag) {o : Expr} {f : Str} {pos : Pos} {ta : TE} (ha : PE X o ta) (hb : attributeBase o f X.env (eval o X.env) = eval o X.env) (h : X.K = K := by rfl) : PE X (.Attribute o f pos) (tFld K ta f) := by subst h; exact pe_fld ha hb
theorem tupK (K : PySem.W.Frag) {es : List Expr} {k : Nat} {pos : Pos} {t : TGs} (n : Nat) (h : PGs X es t) (hc : X.calm = true := by rfl)
    (hn : (assignEach es X.env).length = n := by rfl) (hst : (assignEach es X.env).findIdx? (·.1) = none := by rfl) (hK : X.K = K := by rfl) : PG X (.Tuple es k pos) (gTup K n t) := by subst hK; exact pg_tup hc h hn hst
theorem unlK (K : PySem.W.Frag) {es : List Expr} {k : Nat} {pos : Pos} {t : TGs} (n : Nat) (h : PGs X es t) (hc : X.calm = true := by rfl)
    (hn : (assignEach es X.env).length = n := by rfl) (hst : (assignEach es X.env).findIdx? (·.1) = none := by rfl) (hK : X.K = K := by rfl) : PG X (.Tuple es k pos) (gUnl K n t) := by subst hK; exact pg_unl hc h hn hst
end
def Sr.is (K : PySem.W.Frag) (H : Hp) (xs : List V) : Sr → Prop
  | .txt x => xs = x.cps.toList.map fun c => V.str ⟨#[c]⟩
  | .lst a => SqL K H a xs
  | .tup a => SqT K H a xs
theorem Sr.is_there {K : PySem.W.Frag} {H : Hp} {xs : List V} : ∀ {S : Sr}, S.is K H xs → S.there K H
  | .txt _, _ => trivial
  | .lst _, h => ⟨xs, h⟩
  | .tup _, h => ⟨xs, h⟩
theorem Sr.is_has {K : PySem.W.Frag} {H : Hp} {xs : List V} {i : Nat} (hi : i < xs.length) : ∀ {S : Sr}, S.is K H xs → S.has K i H
  | .txt x, h => by
    have h' : xs = x.cps.toList.map fun c => V.str ⟨#[c]⟩ := h
    rw [h', List.length_map] at hi
    show i < x.cps.size; simpa using hi
  | .lst _, h => ⟨xs, h, hi⟩
  | .tup _, h => ⟨xs, h, hi⟩
theorem Sr.is_upto {K : PySem.W.Frag} {H : Hp} {xs : List V} {i : Nat} (hi : i ≤ xs.length) : ∀ {S : Sr}, S.is K H xs → S.upto K i H
  | .txt x, h => by
    have h' : xs = x.cps.toList.map fun c => V.str ⟨#[c]⟩ := h
    rw [h', List.length_map] at hi
    show i ≤ x.cps.size; simpa using hi
  | .lst _, h => ⟨xs, h, hi⟩
  | .tup _, h => ⟨xs, h, hi⟩
theorem Sr.is_ends {K : PySem.W.Frag} {H : Hp} {xs : List V} {i : Nat} (hi : i = xs.length) : ∀ {S : Sr}, S.is K H xs → S.ends K i H
  | .txt x, h => by
    have h' : xs = x.cps.toList.map fun c => V.str ⟨#[c]⟩ := h
    rw [h', List.length_map] at hi
    show i = x.cps.size; simpa using hi
  | .lst _, h => ⟨xs, h, hi⟩
  | .tup _, h => ⟨xs, h, hi⟩
theorem Sr.is_val {K : PySem.W.Frag} {H : Hp} {xs : List V} {i : Nat} {v : V} : ∀ {S : Sr}, S.is K H xs → S.val K i H v → xs[i]? = some v
  | .txt x, h, ⟨c, e, ev⟩ => by
    have h' : xs = x.cps.toList.map fun c => V.str ⟨#[c]⟩ := h
    have e' : x.cps.toList[i]? = some c := by simpa using e
    rw [h', List.getElem?_map, e', ev]; rfl
  | .lst _, h, e => e xs h
  | .tup _, h, e => e xs h
theorem walk_zipX {K : PySem.W.Frag} {S1 S2 : Sr} {xs ys : List V} : Walk (ItzX K S1 S2) (min xs.length ys.length) (fun H => S1.is K H xs ∧ S2.is K H ys) (YPair (fun i => xs[i]?) (fun i => ys[i]?)) := by
  refine ⟨fun i _ hi q => ⟨Sr.is_has (by omega) q.1, Sr.is_has (by omega) q.2⟩, fun _ q => ⟨Sr.is_upto (by omega) q.1, Sr.is_upto (by omega) q.2, ?_⟩, fun i H v H' _ q y => ?_⟩
  · rcases Nat.le_total xs.length ys.length with h | h
    · exact .inl (Sr.is_ends (by omega) q.1)
    · exact .inr (Sr.is_ends (by omega) q.2)
  · obtain ⟨T, x, z, h1, h2, h3, h4, h5⟩ := y
    exact ⟨T, x, z, h1, h2, h3, Sr.is_val q.1 h4, Sr.is_val q.2 h5⟩
end LX
namespace LX
open PySem PySem.Spec PyProof.Rows L2 C8 SX
theorem lc_keepH {Rel : Hp → Hp → Prop} {J : It} {n : Nat} {G : Hp → Prop} {Y : Nat → Hp → V → Hp → Prop} {H1 : Hp} (kp : Keep Rel H1) (w : Walk J n G Y) {g : TG} {te : TE} {vs : List Nat} {σ : L2.St} {D : Addr} {Qd : Hp → Prop} (hD : H1 D = none) (hn : n < sizeLine)
    (Good : Nat → V → Hp → Prop) (hG : ∀ H, Rel H1 H → G H)
    (st : ∀ i y H H', Rel H1 H → Rel H H' → Good i y H → Good i y H') (pt : ∀ i y H acc o, Rel H1 H → H D = some (.lst acc) → Good i y H → Good i y (upd H D o))
    (hs : ∀ i x H H' acc (R : V → Hp → Prop), i < n → Rel H1 H → H D = some (.lst acc) → Y i H x H' → (∀ y H4, Rel H H4 → Good i y H4 → R y H4) → g x (wipe σ vs) H' fun σ2 H2 => wipe σ2 vs = wipe σ vs ∧ te σ2 H2 R)
    (hd : ∀ ys H, ys.length = n → (∀ (j : Nat) y, ys[j]? = some y → Good j y H) → Rel H1 H → H D = some (.lst ys) → Qd H) :
    ∃ W : Nat → Nat → Hp → Prop, (∃ m, W 0 m (upd H1 D (.lst []))) ∧ ∀ i m H, W i m H →
      (J.stop i H ∧ Qd H) ∨ (J.go i H ∧ ∃ Nx : Hp → Prop, (∀ H', Nx H' → ∃ m', m' < m ∧ W (i + 1) m' H') ∧ ∀ x H', J.yld i H x H' → g x (wipe σ vs) H' fun σ2 H2 => wipe σ2 vs = wipe σ vs ∧ tYes σ2 H2 fun b H3 =>
        if b = true then te σ2 H3 fun y H4 => ∃ acc, H4 D = some (.lst acc) ∧ acc.length < sizeLine ∧ Nx (upd H4 D (.lst (acc ++ [y]))) else Nx H3) := by
  refine lc_it w (fun i H => ∃ acc, acc.length = i ∧ H D = some (.lst acc) ∧ Rel H1 H ∧ ∀ (j : Nat) y, acc[j]? = some y → Good j y H) ⟨[], rfl, upd_same, kp.put _ _ _ kp.refl hD, fun j y e => by simp at e⟩ (fun i H _ ⟨_, _, _, r, _⟩ => hG H r) (fun i x H H' hi ⟨acc, hl, hDa, r, hg⟩ hy => ?_) (fun H ⟨acc, hl, hDa, r, hg⟩ => hd acc H hl hg r hDa)
  refine hs i x H H' acc _ hi r hDa hy fun y H4 r4 gy => ?_
  have hD4 := kp.get _ _ _ _ r4 hD r hDa
  have r5 := kp.trans _ _ r r4
  refine ⟨acc, hD4, by omega, acc ++ [y], by simp [hl], upd_same, kp.put _ _ _ r5 hD, fun j z e => ?_⟩
  rcases Nat.lt_or_ge j acc.length with h | h
  · rw [List.getElem?_append_left h] at e
    exact pt _ _ _ _ _ r5 hD4 (st _ _ _ _ r r4 (hg j z e))
  · rw [List.getElem?_append_right h] at e
    have hj : j - acc.length = 0 := by
      rcases Nat.lt_or_ge (j - acc.length) 1 with z | z
      · omega
      · rw [List.getElem?_eq_none (by simpa using z)] at e; cases e
    rw [hj] at e
    have : y = z := Option.some.inj e
    subst this
    have : j = i := by omega
    subst this
    exact pt _ _ _ _ _ r5 hD4 gy
end LX
namespace LX
open PySem PySem.Spec PyProof.Rows L2 C8 SX
def bx (x y z : Int) : HO := .lst [.int x, .int y, .int z]
def isBx (o : HO) : Prop := ∃ x y z : Int, o = bx x y z
def BoxAt (b : Addr) (H : Hp) : Prop := ∃ o, H b = some o ∧ isBx o
abbrev Bx (b : Addr) : Hp → Hp → Prop := Bk isBx b
theorem Bx.box {b : Addr} {H H' : Hp} (h : Bx b H H') : BoxAt b H' := h.2
theorem BoxAt.of {b : Addr} {H : Hp} {x y z : Int} (h : H b = some (bx x y z)) : BoxAt b H := ⟨_, h, _, _, _, rfl⟩
theorem Bx.mk {b : Addr} {H : Hp} (x y z : Int) : Bx b H (upd H b (bx x y z)) := ⟨fun a o n e => by rw [upd_ne n]; exact e, _, upd_same, _, _, _, rfl⟩
theorem Bx.trans {b : Addr} {H H1 H2 : Hp} (p : Bx b H H1) (q : Bx b H1 H2) : Bx b H H2 := ⟨fun a o n e => q.1 a o n (p.1 a o n e), q.2⟩
theorem box_ne {b p : Addr} {H : Hp} (h : BoxAt b H) (n : H p = none) : p ≠ b := by
  obtain ⟨o, e, _⟩ := h
  exact (ne_of_none e n).symm
theorem Bx.put {b p : Addr} {H H1 : Hp} {o : HO} (s : Bx b H H1) (h : BoxAt b H) (n : H p = none) : Bx b H (upd H1 p o) := (keep_bk h).put _ _ _ s n
theorem Bx.free {b p : Addr} {H H1 : Hp} (s : Bx b H H1) (n : H1 p = none) : H p = none := by
  cases q : H p with
  | none => rfl
  | some o =>
    by_cases e : p = b
    · subst e; obtain ⟨u, z, _⟩ := s.2; rw [n] at z; cases z
    · rw [s.1 p o e q] at n; cases n
theorem nil1 {σ : L2.St} {H : Hp} {R : List V → Hp → Prop} (h : R [] H) : tNil σ H R := h
theorem consc {v : V} {σ : L2.St} {H : Hp} {R : List V → Hp → Prop} (h : R [v] H) : tCons (tC v) tNil σ H R := h
theorem tc1 {v : V} {σ : L2.St} {H : Hp} {Q : VK} (h : Q v H) : tC v σ H Q := h
theorem ne_str {l r : Str} {H : Hp} {R : VK} (e : l = r) (h : R (.bl false) H) : rNe (.str l) (.str r) H R := ⟨rfl, by rw [decide_eq_true (by rw [e])]; exact h⟩
theorem bl_f {p : Bool → Prop} (h : p false) : ∃ k, V.bl false = V.bl k ∧ p k := ⟨false, rfl, h⟩
theorem if_f {p q : Prop} (h : q) : if false = true then p else q := h
theorem iteB {c : Bool} {A B : Prop} (hc : c = true) (h : A) : if c = true then A else B := by rw [if_pos hc]; exact h
theorem iteN {c : Bool} {A B : Prop} (hc : c = false) (h : B) : if c = true then A else B := by rw [hc]; exact iteF h
theorem perm_at {α : Type} : ∀ {xs : List α} {i : Nat} (h : i < xs.length), (xs[i] :: xs.eraseIdx i).Perm xs
  | x :: xs, 0, _ => List.Perm.refl _
  | x :: xs, i + 1, h => (List.Perm.swap x _ _).trans ((perm_at (xs := xs) (i := i) (Nat.lt_of_succ_lt_succ h)).cons x)
theorem eraseIdx_map' {α β : Type} (f : α → β) : ∀ (xs : List α) (i : Nat), (xs.map f).eraseIdx i = (xs.eraseIdx i).map f
  | [], i => by cases i <;> rfl
  | x :: xs, 0 => rfl
  | x :: xs, i + 1 => congrArg (f x :: ·) (eraseIdx_map' f xs i)
theorem perm_map_inv {α β : Type} {f : α → β} {g : β → α} (hg : ∀ a, g (f a) = a) {ys : List β} {xs : List α} (h : ys.Perm (xs.map f)) : ∃ zs : List α, ys = zs.map f ∧ zs.Perm xs := by
  refine ⟨ys.map g, ?_, ?_⟩
  · rw [List.map_map]
    have : ys.map (f ∘ g) = ys.map id := List.map_congr_left fun y hy => by
      obtain ⟨a, _, rfl⟩ := List.mem_map.mp (h.subset hy)
      show f (g (f a)) = f a
      rw [hg]
    rw [this, List.map_id]
  · have e := h.map g
    rw [List.map_map] at e
    have : xs.map (g ∘ f) = xs.map id := List.map_congr_left fun a _ => hg a
    rw [this, List.map_id] at e
    exact e
theorem sums_singles : ∀ l : List Nat, ((l.map fun c => S [c]).map (·.length)).sum = l.length
  | [] => rfl
  | c :: l => by simp only [List.map_cons, List.sum_cons, sums_singles l, List.length_cons]; rw [S_len]; simp; omega
theorem join_nil : ∀ ys : List (List Nat), TL.joinL [] ys = ys.flatten
  | [] => rfl
  | [y] => by simp [TL.joinL]
  | y :: z :: ys => by
    have ih := join_nil (z :: ys)
    simp [TL.joinL] at ih ⊢
    exact ih
theorem join_txs (ys : List (List Nat)) : Txt.join (S []) (ys.map S) = S ys.flatten := by rw [join_S, join_nil]
theorem flat_singles : ∀ l : List Nat, (l.map fun c => [c]).flatten = l
  | [] => rfl
  | c :: l => by rw [List.map_cons, List.flatten_cons, flat_singles l]; rfl
theorem join_singles (l : List Nat) : Txt.join (S []) (l.map fun c => S [c]) = S l := by
  have e1 : (l.map fun c => S [c]) = (l.map fun c => [c]).map S := by rw [List.map_map]; rfl
  rw [e1, join_txs, flat_singles]
theorem rising_singles : ∀ (ds : List Nat) (c : Nat), risingS (S [c]) (ds.map fun d => S [d]) = true → (∀ d ∈ ds, c ≤ d) ∧ ds.Pairwise (· ≤ ·)
  | [], _, _ => ⟨fun _ h => (nomatch h), .nil⟩
  | d :: ds, c, h => by
    have h' : (!ltCps [d] [c] && risingS (S [d]) (ds.map fun d => S [d])) = true := h
    rw [Bool.and_eq_true, Bool.not_eq_true'] at h'
    obtain ⟨h1, h2⟩ := h'
    obtain ⟨i1, i2⟩ := rising_singles ds d h2
    have hcd : c ≤ d := by
      rcases Nat.lt_or_ge d c with q | q
      · simp [ltCps, q] at h1
      · exact q
    refine ⟨fun e he => ?_, List.pairwise_cons.mpr ⟨i1, i2⟩⟩
    rcases List.mem_cons.mp he with rfl | he
    · exact hcd
    · exact Nat.le_trans hcd (i1 e he)
theorem sorted_singles {ds : List Nat} (h : sortedS (ds.map fun d => S [d]) = true) : ds.Pairwise (· ≤ ·) := by
  cases ds with
  | nil => exact .nil
  | cons d ds =>
    obtain ⟨i1, i2⟩ := rising_singles ds d h
    exact List.pairwise_cons.mpr ⟨i1, i2⟩
theorem strict_of {ds : List Nat} (h : ds.Pairwise (· ≤ ·)) (n : ds.Nodup) : ds.Pairwise (· < ·) :=
  (h.and n).imp fun ⟨a, b⟩ => Nat.lt_of_le_of_ne a b
open Classical in
theorem fun_of {α γ : Type} [DecidableEq α] [Inhabited γ] {sg : List α} (n : sg.Nodup) {P : Nat → α → γ → Prop} (h : ∀ j c, sg[j]? = some c → ∃ v, P j c v) : ∃ g : α → γ, ∀ j c, sg[j]? = some c → P j c (g c) := by
  refine ⟨fun c => if q : ∃ v, P (sg.idxOf c) c v then q.choose else default, fun j c e => ?_⟩
  have hj : j = sg.idxOf c := by
    obtain ⟨hl, e2⟩ := List.getElem?_eq_some_iff.mp e
    subst e2
    exact (n.idxOf_getElem j hl).symm
  have q : ∃ v, P (sg.idxOf c) c v := hj ▸ h j c e
  show P j c (dite _ _ _)
  rw [dif_pos q, hj]
  exact q.choose_spec
theorem paired_map {α β γ : Type} {R : α → β → Prop} {f : γ → α} {g : γ → β} : ∀ {l : List γ}, (∀ c ∈ l, R (f c) (g c)) → Paired R (l.map f) (l.map g)
  | [], _ => .nil
  | c :: l, h => .cons (h c List.mem_cons_self) (paired_map fun d hd => h d (List.mem_cons_of_mem _ hd))
abbrev tk (l : List Nat) : Key := Sum.inr (S l)
theorem tk_inj {l r : List Nat} (h : tk l = tk r) : l = r := by
  have e : S l = S r := Sum.inr.inj h
  have : (S l).cps.toList = (S r).cps.toList := by rw [e]
  simpa [S] using this
theorem valV_none {kvs : List (Key × V)} {k : Key} (h : ∀ p ∈ kvs, p.1 ≠ k) : valV kvs k = none := by
  unfold valV
  rw [List.find?_eq_none.mpr fun p hp => by simpa using h p hp]
  rfl
theorem valV_map' {α : Type} [DecidableEq α] {key : α → Key} (inj : ∀ a b, key a = key b → a = b) {f : α → V} : ∀ {l : List α} {c : α}, c ∈ l → valV (l.map fun a => (key a, f a)) (key c) = some (f c)
  | a :: l, c, h => by
    by_cases e : a = c
    · subst e; exact valV_pos rfl
    · rw [List.map_cons, valV_neg (fun q => e (inj _ _ q))]
      refine valV_map' inj ?_
      rcases List.mem_cons.mp h with q | q
      · exact absurd q.symm e
      · exact q
theorem merge_new : ∀ {more kvs : List (Key × V)}, (∀ p ∈ more, ∀ q ∈ kvs, q.1 ≠ p.1) → (more.map (·.1)).Nodup → mergeK kvs more = kvs ++ more
  | [], kvs, _, _ => by rw [List.append_nil]; rfl
  | p :: more, kvs, h, n => by
    have e : putK kvs p.1 p.2 = kvs ++ [p] := putK_new _ (valV_none fun q hq => h p List.mem_cons_self q hq)
    show mergeK (putK kvs p.1 p.2) more = _
    rw [List.map_cons, List.nodup_cons] at n
    rw [e, merge_new (fun r hr q hq => ?_) n.2, List.append_assoc]
    · rfl
    · rcases List.mem_append.mp hq with hq | hq
      · exact h r (List.mem_cons_of_mem _ hr) q hq
      · rw [List.mem_singleton] at hq
        subst hq
        exact fun e => n.1 (e ▸ List.mem_map_of_mem hr)
theorem merge_nil {more : List (Key × V)} (n : (more.map (·.1)).Nodup) : mergeK [] more = more := by
  rw [merge_new (fun _ _ q h => absurd h List.not_mem_nil) n]; rfl
theorem nodup_keys {α : Type} {key : α → Key} (inj : ∀ a b, key a = key b → a = b) {f : α → V} {l : List α} (n : l.Nodup) : ((l.map fun a => (key a, f a)).map (·.1)).Nodup := by
  rw [List.map_map]
  exact List.pairwise_map.mpr (n.imp fun h e => h (inj _ _ e))
theorem cut_to (ys : List (List Nat)) (k : Nat) : cutV (txs ys) none (some (k : Int)) = txs (ys.take k) := by
  unfold cutV
  rw [HT.sIx_none, HT.sIx_nat, List.drop_zero, Nat.sub_zero, txs_len]
  unfold txs
  rw [← List.map_take]
  rcases Nat.le_total k ys.length with h | h
  · rw [Nat.min_eq_left h]
  · rw [Nat.min_eq_right h, List.take_length, List.take_of_length_le h]
theorem tup_ne_box {H : Hp} {t b : Addr} {xs : List V} (hb : BoxAt b H) (ht : H t = some (.tup xs)) : t ≠ b := by
  obtain ⟨o, e, x, y, z, rfl⟩ := hb
  exact ne_of ht e (by intro h; cases h)
theorem dict_ne_box {H : Hp} {t b : Addr} {xs : List (Key × V)} (hb : BoxAt b H) (ht : H t = some (.dK xs)) : t ≠ b := by
  obtain ⟨o, e, x, y, z, rfl⟩ := hb
  exact ne_of ht e (by intro h; cases h)
theorem not_in_take {α : Type} [DecidableEq α] {ms : List α} {i : Nat} {m : α} (n : ms.Nodup) (h : ms[i]? = some m) : m ∉ ms.take i := fun hm => by
  obtain ⟨j, hj⟩ := List.getElem?_of_mem hm
  have hji : j < i := by
    have := (List.getElem?_eq_some_iff.mp hj).1
    rw [List.length_take] at this; omega
  rw [List.getElem?_take_of_lt hji] at hj
  have h1 := (List.getElem?_eq_some_iff.mp h)
  have h2 := (List.getElem?_eq_some_iff.mp hj)
  obtain ⟨a1, a2⟩ := h1
  obtain ⟨b1, b2⟩ := h2
  have e1 : ms.idxOf m = i := by subst a2; exact n.idxOf_getElem i a1
  have e2 : ms.idxOf m = j := by subst b2; exact n.idxOf_getElem j b1
  omega
theorem take_more {α : Type} {ms : List α} {i : Nat} {m : α} (h : ms[i]? = some m) : ms.take (i + 1) = ms.take i ++ [m] := by
  rw [List.take_succ, h]; rfl
theorem sz {n m : Nat} (h : n ≤ m) (hm : m ≤ 1000) : n ≤ sizeLine := Nat.le_trans (Nat.le_trans h hm) (show 1000 ≤ sizeLine by decide)
end LX
set_option maxHeartbeats 2000000
namespace LX
open PySem PySem.Spec PyProof.Rows L2 C8 SX
structure FnG (P : Program) (w : World) (K : PySem.W.Frag) (mg : Str → Option Value) (base : Heap) (k : Nat) (f : Addr) (fd : FuncData) (ps : List Str) (sp : Sp) : Prop where
  many : ∀ vs H Q E, sp vs H Q E → vs.length = ps.length
  goes : ∀ (A : Around) (ou : List Env) (t : Shared) (H : Hp) (gs : Args) (us : List Value) (vs : List V) (Q : VK) (E : XK), A.guards = some [] → Room k A → Env0 P w K mg base A ou t H → BindsTo t fd gs (ps.zip us) → Vals vs us →
    sp vs H Q E → codeAny (model P w) A (.call (.ref f) gs) (CR C8.CX0 ou P w H t Q E) t
theorem FnG.of {P : Program} {w : World} {K : PySem.W.Frag} {mg : Str → Option Value} {base : Heap} {k : Nat} {f : Addr} {fd : FuncData} {ps : List Str} {sp : Sp} (F : FnOk P w K mg base C8.CX0 k f fd ps sp) : FnG P w K mg base k f fd ps sp :=
  ⟨F.len, fun A ou t H gs us vs Q E _ => F.run A ou t H gs us vs Q E⟩
theorem fnG0 {P : Program} {w : World} {K : PySem.W.Frag} {mg : Str → Option Value} {base : Heap} {x ql : Str} {st : Stmt} {f : Addr} {fd : FuncData} {N ps : List Str} {k : Nat} {sp : Sp} (F : C8.Fun K x ql st f fd) (Sc : FnScope N ps (C8.fnScope st))
    (many : ∀ vs H Q E, sp vs H Q E → vs.length = ps.length)
    (h : ∀ (cd : Value) (A : Around) (ou : List Env) (t : Shared) (H : Hp) (vs : List V) (Q : VK) (E : XK), A.guards = some [] → Room k (A.deeper (envOfC ql (C8.fnScope st) t.heap.objs.size f cd)) → sp vs H Q E →
      ∃ r, PSs (cxOf C8.CX0 P w K mg base N ql (C8.fnScope st) f cd A ou t H E).nox (C8.fnBody st) r ∧ r { nx := fun _ H' => Q .non H', rt := Q } (L2.start N vs) H) : FnG P w K mg base (k + 1) f fd ps sp := by
  obtain ⟨oc, od, dV, kV, doc, pm, an, cd, ct, osl, rfl, at_, code⟩ := F.ex
  constructor
  · exact many
  intro A ou t H gs us vs Q E gd room e0 bound rel want
  have count := many _ _ _ _ want
  have old : ∀ (b : Addr) (o : Obj), base.get? b = some o → t.heap.get? b = some o := fun b o e => (e0.bs b o e).1
  have KT : K.In t.heap := e0.mod.kin.keeps old
  have kinds : ∀ y ∈ ps.zip us, (C8.fnScope st).names.lookup y.1 = some .local ∨ ((C8.fnScope st).names.lookup y.1 = some .cell ∧ ((cellsFrom (t.heap.objs.size + 1) (C8.fnScope st).names []).lookup y.1).isSome = true) := by
    intro y hy
    obtain ⟨n, v⟩ := y
    exact (Sc.par n (List.of_mem_zip hy).1).elim .inl fun q => .inr ⟨q, PySem.W.cellsFrom_some _ _ _ (.inl q)⟩
  refine codeAny_call_function room.depth (KT _ _ at_) rfl Sc.co Sc.gen rfl (PySem.W.codeRec_of KT code) (bound _ _ _ _ ?_)
  refine wpAny_newFunctionEnv_cells Sc.kind kinds fun en en_is t1 inside => ?_
  subst en_is
  refine ⟨(e0.mod.nolimit.keeps old).keeps inside.toInCall.keep, codeAny_func ?_⟩
  obtain ⟨r, body, read⟩ := h cd A ou t H vs Q E gd (room.deeper _) want
  have I0 := inv_start (CX := C8.CX0) (E := E) Sc room.hd e0 count rel inside
  refine wpAny_mono (body.nox.run [] t1 (L2.start N vs) H _ I0 read) (fun fl t' got => ?_) fun _ _ got => got
  cases fl with
  | ret u => exact let ⟨v, _, H', J, rv, q⟩ := got; ⟨v, H', J.os, J.bare, J.base, J.hok, rv, q⟩
  | next => exact let ⟨_, H', J, q⟩ := got; ⟨.non, H', J.os, J.bare, J.base, J.hok, rfl, q⟩
  | brk => exact let ⟨_, _, _, q⟩ := got; False.elim q
  | cont => exact let ⟨_, _, _, q⟩ := got; False.elim q
structure CalG (P : Program) (w : World) (K : PySem.W.Frag) (mg : Str → Option Value) (base : Heap) (k : Nat) (x : Str) (sp : Sp) : Prop where
  ex : ∃ (f : Addr) (fd : FuncData) (ps : List Str), FnG P w K mg base k f fd ps sp ∧ mg x = some (.ref f) ∧ PySem.W.keepIn K (.ref f) = true ∧ Binds K fd ps []
structure MetG (P : Program) (w : World) (K : PySem.W.Frag) (mg : Str → Option Value) (base : Heap) (k : Nat) (C : Addr) (m : Str) (sp : Sp) : Prop where
  ex : ∃ (f : Addr) (fd : FuncData) (ps : List Str), Cls K C ∧ Meth K C m f ∧ FnG P w K mg base k f fd ps sp ∧ Binds K fd ps []
section
variable {X : Cx} {k j : Nat} {f C : Addr} {fd : FuncData} {ps : List Str} {sp : Sp} {x m : Str} {p pos apos : Pos} {e o : Expr} {es : List Expr} {ta : TE} {t : TA}
theorem goesG {pins : List (Addr × Obj)} {σ : L2.St} {H : Hp} {s : Shared} {Q : VK} {us : List Value} {vs : List V} (F : FnG X.prog X.w X.K X.mg X.base k f fd ps sp) (gd : X.A.guards = some []) (room : Room k X.A) (bd : Binds X.K fd ps [])
    (I : Inv X pins σ H s) (rel : Vals vs us) (want : sp (vs ++ []) H Q C8.E0) : wpAny (model X.prog X.w) X.A (call (.ref f) us) (EP X pins σ Q) X.xe s := by
  rw [List.append_nil] at want
  have count : (us ++ []).length = ps.length := by rw [List.append_nil, ← rel.length]; exact F.many _ _ _ _ want
  have bs := bd s us I.kIn count
  rw [List.append_nil] at bs
  refine wpAny_call (codeAny_mono (F.goes X.A X.stack s H ⟨us, []⟩ us vs Q C8.E0 gd room I.env0 bs rel want) fun r t' got => ?_)
  match r, got with
  | .ok (.ret u), got => exact I.after got
theorem pe_cG (c : CalG X.prog X.w X.K X.mg X.base k x sp) (gd : X.A.guards = some []) (room : Room j X.A) (hk : k ≤ j) (hg : Gl X x) (ha : PA X (e :: es) t) (hdb : (x == ("__debug__" : Str)) = false := by decide)
    (he : starEach (e :: es) X.env = (false, eval e X.env) :: starEach es X.env := by rfl) (hpl : (backTo pos (starEach es X.env)).any (·.1) = false := by rfl) : PE X (.Call (.Name x p) (e :: es) [] pos) (tCall sp [] C8.E0 t) := by
  obtain ⟨f, fd, ps, F, named, kept, bd⟩ := c.ex
  constructor
  intro pins s σ H Q I want
  refine wpAny_Call_Name_kw (ld_glob I hg named ?_ hdb)
  refine PySem.W.callWith_K (h₀ := X.base) I.ok.mod.kin kept (thn (ha.run pos pins s σ H _ I want) ?_) he hpl
  rintro us s1 ⟨vs, H1, I1, rel, q⟩
  exact ⟨I1.kIn, goesG F gd (room.mono hk) bd I1 rel q⟩
theorem call_reprG (gd : X.A.guards = some []) (room : Room j X.A) : CallR X (.builtin "repr") (fun xs H Q => ∃ (a : Addr) (d : PyData), xs = [.ref a] ∧ Dp X.K H (.ref a) d ∧ d.showable = true ∧ d.hasDict = false ∧ d.depth ≤ 60 ∧ d.shown.length ≤ sizeLine ∧ Q (.str d.shown) H) := by
  intro pins s σ H xs us Q I rel want
  obtain ⟨a, d, rfl, hd, sh, nd, dep, sz, q⟩ := want
  obtain ⟨u, rfl, ru⟩ := vals1 rel
  obtain rfl : u = Value.ref a := ru
  obtain ⟨as, rd⟩ := Dp.reads I d (.ref a) (.ref a) hd rfl
  have un := room.un
  refine repr_of_reads' rd sh (PyData.noDict_hsm nd) gd (by omega) (fun _ _ z => z) (fun h' u tk kept => ?_) sz
  exact ⟨.str d.shown, H, I.kept kept, ⟨_, rfl⟩, q⟩
end
abbrev Done (s s' : Shared) (r : Result) : Prop := r = .ok (.ret (.bool true)) ∧ OldK s.heap s'.heap ∧ s'.os = s.os ∧ AllBare s'.gens
section
variable {P : Program} {w : World} {K : PySem.W.Frag} {mg mb : Str → Option Value} {k : Nat} {fa a : Addr} {fd : FuncData} {x : Str} {sp : Sp} {s : Shared} {vs : List Value} {ns : List Int}
theorem lawG_at {H : Hp} (KX : K.In s.heap) (hns : s.heap.Ns mainGlobals mg) (hb : s.heap.Ns builtinsNs mb) (hbb : ∀ x : Str, x ≠ "__name__" → mb x = bootBuiltins x) (lim : s.heap.NoLimit) (gens : s.gens = #[])
    (ha : s.heap.get? a = some { cls := .type "list", data := .seq vs.toArray }) (room : Room k callerA) (F : ∀ base : Heap, K.In base → base.Ns mainGlobals mg → FnG P w K mg base k fa fd [x] sp)
    (bd : ∀ (s : Shared) (u : Value), BindsTo s fd ⟨[u], []⟩ [(x, u)]) (only : Only H) (want : sp [.ref a] H (fun v _ => v = .bl true) C8.E0) (ok : HOk P w H s.heap) (at_a : ∀ b, H b ≠ none → b = a) (not_K : H a ≠ none → K.lookup a = none) :
    codeAny (model P w) callerA (.call (.ref fa) ⟨[.ref a], []⟩) (fun r s' => Done s s' r) s := by
  have free : ∀ {b : Addr}, b ≠ a → H b = none := fun {b} hn => by
    cases q : H b with
    | none => rfl
    | some u => exact absurd (at_a b (by rw [q]; simp)) hn
  have dict_free : ∀ {b : Addr} {o : Obj} {es : Array DictEntry} {ep : Nat}, s.heap.get? b = some o → o.data = .dict es ep → H b = none := fun {b o es ep} e d => free fun eq => by
    rw [eq, ha] at e
    cases e
    have d2 : Data.seq vs.toArray _ = Data.dict es ep := d
    cases d2
  have names : ∀ {b : Addr} {m : Str → Option Value}, s.heap.Ns b m → (hidT s.heap H).Ns b m := fun {b m} ⟨o, es, ep, e, d, r⟩ => ⟨o, es, ep, hidT_get e (dict_free e d), d, r⟩
  have hK : K.In (hidT s.heap H) := fun b o e => hidT_get (KX b o e) (by
    by_cases eq : b = a
    · subst eq
      cases q : H b with
      | none => rfl
      | some u => rw [not_K (by rw [q]; simp)] at e; cases e
    · exact free eq)
  have md : Mod K mg (hidT s.heap H) := by
    obtain ⟨mc, c1, c2⟩ := lim
    exact ⟨hK, names hns, ⟨mb, names hb, hbb⟩, mc, names c1, c2⟩
  have e0 : Env0 P w K mg (hidT s.heap H) callerA [] s H := ⟨rfl, md, fun _ _ e => of_hidT e, Nat.le_of_eq (hidT_size _ _), trivial, fun _ hm => absurd hm (List.not_mem_nil), ok, .of_eq gens⟩
  refine codeAny_mono ((F _ hK (names hns)).goes callerA [] s H ⟨[.ref a], []⟩ [.ref a] [.ref a] _ _ rfl room e0 (bd s (.ref a)) (.cons rfl .nil) want) fun r t got => ?_
  match r, got with
  | .ok (.ret u), got =>
    obtain ⟨v, H2, os, bare, un, ok2, rel, is_true⟩ := got
    obtain rfl : v = V.bl true := is_true
    obtain rfl : u = Value.bool true := rel
    refine ⟨rfl, OldK.of_keep fun b o e => ?_, os, bare⟩
    rcases only b with none_ | ⟨ob, xs, frozen⟩
    · exact un.keep b o e none_ (fun z => absurd z List.not_mem_nil) (by simp)
    · obtain ⟨e1, _⟩ := ok b _ frozen
      obtain ⟨e2, _⟩ := ok2 b _ (un.frzs b ob _ frozen)
      rw [e] at e1
      cases e1
      exact e2
theorem lawG_call (KX : K.In s.heap) (hns : s.heap.Ns mainGlobals mg) (hb : s.heap.Ns builtinsNs mb) (hbb : ∀ x : Str, x ≠ "__name__" → mb x = bootBuiltins x) (lim : s.heap.NoLimit) (gens : s.gens = #[])
    (ha : s.heap.get? a = some { cls := .type "list", data := .seq vs.toArray }) (hi : IntsAre vs ns) (hl : ns.length ≤ sizeLine) (room : Room k callerA) (F : ∀ base : Heap, K.In base → base.Ns mainGlobals mg → FnG P w K mg base k fa fd [x] sp)
    (bd : ∀ (s : Shared) (u : Value), BindsTo s fd ⟨[u], []⟩ [(x, u)]) (want : ∀ H : Hp, Only H → SqL K H a (ns.map V.int) → sp [.ref a] H (fun v _ => v = .bl true) C8.E0) :
    codeAny (model P w) callerA (.call (.ref fa) ⟨[.ref a], []⟩) (fun r s' => Done s s' r) s := by
  have rel := vals_ints hi
  cases own : K.lookup a with
  | some o =>
    have e := KX a o own
    rw [ha] at e
    cases e
    have only : Only (fun _ => none : Hp) := fun _ => .inl rfl
    have sq : SqL K (fun _ => none) a (ns.map V.int) := .inr ⟨_, vs.toArray, _, own, rfl, rfl, rfl, by rw [List.size_toArray, hi.length]; exact hl, by simpa using rel⟩
    refine lawG_at KX hns hb hbb lim gens ha room F bd only (want _ only sq) ?_ (fun b z => absurd rfl z) fun z => absurd rfl z
    intro b u z
    have z2 : (none : Option HO) = some u := z
    cases z2
  | none =>
    let one : HO := .frz { cls := .type "list", data := .seq vs.toArray } (.lst (ns.map V.int))
    let H : Hp := fun b => if b = a then some one else none
    have here : H a = some one := if_pos rfl
    have else_ : ∀ {b : Addr}, b ≠ a → H b = none := fun hn => if_neg hn
    have only : Only H := fun b => by
      by_cases e : b = a
      · exact .inr ⟨_, _, by rw [e]; exact here⟩
      · exact .inl (else_ e)
    refine lawG_at KX hns hb hbb lim gens ha room F bd only (want H only (.inl (.inr ⟨_, here⟩))) (fun b u z => ?_) (fun b z => ?_) fun _ => own
    · by_cases e : b = a
      · subst e
        rw [here] at z
        cases z
        exact ⟨ha, by rw [List.length_map]; exact hl, vs, _, rel, ha⟩
      · rw [else_ e] at z
        cases z
    · by_cases e : b = a
      · exact e
      · exact absurd (else_ e) z
end
theorem walkG {l : PySem.W.OpenLaw} {n k : Nat} {q : Program} {loose : List Str} {XP : (Str → Option Value) → Heap → Prop} {YP : World → Heap → Prop} {d : DefRec} {K : Params → PySem.W.Frag} {sp : PySem.W.Frag → Sp} {x : Str} (hn : l.most = some n) (hn2 : n ≤ sizeLine)
    (hdf : d.params.defaults = []) (room : Room k callerA) (hY : ∀ (w : World) (h : Heap), YP w h → (K w.params).In h)
    (F : ∀ (w : World) (mg : Str → Option Value) (fa : Addr) (h : Heap), (K w.params).In h → h.Ns mainGlobals mg → mg d.name = some (.ref fa) →
      ∃ fd : FuncData, (∀ (s : Shared) (u : Value), BindsTo s fd ⟨[u], []⟩ [(x, u)]) ∧ ∀ base : Heap, (K w.params).In base → base.Ns mainGlobals mg → FnG l.prog w (K w.params) mg base k fa fd [x] (sp (K w.params)))
    (want : ∀ (K : PySem.W.Frag) (H : Hp) (a : Addr) (ns : List Int), ns.length ≤ n → Only H → SqL K H a (ns.map V.int) → sp K [.ref a] H (fun v _ => v = .bl true) C8.E0) : PySem.W.WalkO q loose XP YP l.row.toRowW d [] (fun f vs => PySem.call f vs) := by
  refine Att.attach_call hn hdf ?_
  intro w s0 s1 mg mb fa o pm cd doc a vs ns G Y _ _ _ named list_ nums few gens
  have KX := hY w _ Y
  obtain ⟨fd, bd, F1⟩ := F w mg fa _ KX G.T.g named
  exact lawG_call KX G.T.g G.T.b G.T.builtins G.T.nolimit gens list_ nums (Nat.le_trans few hn2) room F1 bd fun H only sq => want _ H a ns few only sq
end LX
set_option maxHeartbeats 2000000
namespace LX
open PySem PySem.Spec PyProof.Rows L2 C8 SX
section
variable {prog : Program} {w : World} {A : Around} {E : Value → Shared → Prop} {s : Shared} {z TI TO i1 i2 : Addr} {fp1 fp2 : List Addr} {n1 n2 i : Nat} {P1 P2 : Nat → Value → Prop} {St1 St2 : Nat → Heap → Prop}
theorem zipD2_item_held {T : Addr} {f : Bool} {oT : Obj} {Q : Value → Shared → Prop} (S : ZipSep2 z TI TO i1 i2 fp1 fp2) (D1 : Draws prog w A i1 fp1 n1 P1 St1) (D2 : Draws prog w A i2 fp2 n2 P2 St2)
    (hz : IsZipHeld s.heap z TI TO T f) (hT : s.heap.get? T = some oT) (hTI : IsTupOf2 s.heap TI (.ref i1) (.ref i2)) (st1 : St1 i s.heap) (st2 : St2 i s.heap) (hlt1 : i < n1) (hlt2 : i < n2)
    (hQ : ∀ x1 x2 h' tk, P1 i x1 → P2 i x2 → IsZipHeld h' z TI TO T true → St1 (i + 1) h' → St2 (i + 1) h' → IsTupOf2 h' s.heap.objs.size x1 x2 → h'.objs.size = s.heap.objs.size + 1 →
      (∀ c o, c ≠ z → c ≠ i1 → c ≠ i2 → s.heap.get? c = some o → h'.get? c = some o) → Q (.ref s.heap.objs.size) { s with heap := h', toks := tk }) :
    wpAny (model prog w) A (Builtin.«zip.__next__» ⟨[.ref z], []⟩) (fun fin s' => ∃ v, fin = .done (.ret v) ∧ Q v s') E s := by
  show wpAny _ _ (field (.ref z) 2 >>= _) _ _ _
  refine wpAny_bind (wpAny_field hz rfl (x := .bool false) rfl ?_)
  show wpAny _ _ (field (.ref z) 3 >>= _) _ _ _
  refine wpAny_bind (wpAny_field hz rfl (x := .ref TI) rfl ?_)
  refine wpAny_bind (wpAny_seqItems hTI rfl ?_)
  show wpAny _ _ (Builtin.SmallTypes.ownedTupleIsFree (.ref z) >>= _) _ _ _
  refine wpAny_bind (wpAny_tupleHeld_zip hz hT fun h₁ hz₁ hs₁ => ?_)
  simp only [Bool.false_eq_true, if_false]
  refine wpAny_bind ?_
  rw [← Array.forIn_toList]
  simp only [List.forIn_cons, List.forIn_nil]
  refine wpAny_bind (wpAny_bind (wpAny_holding ?_))
  show wpAny _ _ (Builtin.SmallTypes.nextOf (.ref i1) >>= _) _ _ _
  refine wpAny_bind (D1.item i _ _ _ hlt1 (D1.over st1 hs₁ S.zf1) fun x1 h₂ tk₁ p1 h1₂ hs₂ => wpAny_pure ?_)
  refine wpAny_pure ?_
  refine wpAny_bind (wpAny_bind (wpAny_holding ?_))
  show wpAny _ _ (Builtin.SmallTypes.nextOf (.ref i2) >>= _) _ _ _
  refine wpAny_bind (D2.item i _ _ _ hlt2 (D2.over (D2.over st2 hs₁ S.zf2) hs₂ S.sep1_2) fun x2 h₃ tk₂ p2 h2₃ hs₃ => wpAny_pure ?_)
  refine wpAny_pure (wpAny_pure ?_)
  show wpAny _ _ (newTuple [x1, x2] >>= _) _ _ _
  refine wpAny_bind (wpAny_newTuple ?_)
  have hsz : h₃.objs.size = s.heap.objs.size := by rw [hs₃.1, hs₂.1, hs₁.1]
  have hz₃ : IsZipHeld h₃ z TI TO T true := hs₃.extBut _ _ S.zi2 (hs₂.extBut _ _ S.zi1 hz₁)
  have hk : ∀ c o, c ≠ z → c ≠ i1 → c ≠ i2 → s.heap.get? c = some o → h₃.get? c = some o := fun c o c1 c2 c3 e => hs₃.extBut _ _ c3 (hs₂.extBut _ _ c2 (hs₁.extBut _ _ c1 e))
  have h1₃ : St1 (i + 1) h₃ := D1.over h1₂ hs₃ S.sep2_1
  refine wpAny_pure ⟨_, rfl, ?_⟩
  show Q (.ref h₃.objs.size) _
  have hp : IsTupOf2 (h₃.push { cls := .type "tuple", data := .seq #[x1, x2] }) h₃.objs.size x1 x2 := Heap.get?_push_size _ rfl
  have hz4 : (h₃.push { cls := .type "tuple", data := .seq #[x1, x2] }).objs.size = h₃.objs.size + 1 := Heap.size_push ..
  rw [hsz] at hp hz4 ⊢
  exact hQ x1 x2 _ tk₂ p1 p2 (Heap.get?_push_of_some _ hz₃) (D1.frame _ _ _ h1₃ fun b _ o e => Heap.get?_push_of_some _ e) (D2.frame _ _ _ h2₃ fun b _ o e => Heap.get?_push_of_some _ e) hp hz4 fun c o c1 c2 c3 e => Heap.get?_push_of_some _ (hk c o c1 c2 c3 e)
theorem zipD2_end_held {T : Addr} {f : Bool} {oT : Obj} {Q : Fin → Shared → Prop} (S : ZipSep2 z TI TO i1 i2 fp1 fp2) (D1 : Draws prog w A i1 fp1 n1 P1 St1) (D2 : Draws prog w A i2 fp2 n1 P2 St2)
    (hz : IsZipHeld s.heap z TI TO T f) (hT : s.heap.get? T = some oT) (hTI : IsTupOf2 s.heap TI (.ref i1) (.ref i2)) (st1 : St1 n1 s.heap)
    (hE : ∀ h' e, (∀ c o, c ≠ z → c ≠ i1 → c ≠ i2 → s.heap.get? c = some o → h'.get? c = some o) → (∃ o, h'.get? e = some o ∧ o.cls = .type "StopIteration") → E (.ref e) { s with heap := h' }) :
    wpAny (model prog w) A (Builtin.«zip.__next__» ⟨[.ref z], []⟩) Q E s := by
  show wpAny _ _ (field (.ref z) 2 >>= _) _ _ _
  refine wpAny_bind (wpAny_field hz rfl (x := .bool false) rfl ?_)
  show wpAny _ _ (field (.ref z) 3 >>= _) _ _ _
  refine wpAny_bind (wpAny_field hz rfl (x := .ref TI) rfl ?_)
  refine wpAny_bind (wpAny_seqItems hTI rfl ?_)
  show wpAny _ _ (Builtin.SmallTypes.ownedTupleIsFree (.ref z) >>= _) _ _ _
  refine wpAny_bind (wpAny_tupleHeld_zip hz hT fun h₁ hz₁ hs₁ => ?_)
  simp only [Bool.false_eq_true, if_false]
  refine wpAny_bind ?_
  rw [← Array.forIn_toList]
  simp only [List.forIn_cons, List.forIn_nil]
  refine wpAny_bind (wpAny_bind (wpAny_holding ?_))
  show wpAny _ _ (Builtin.SmallTypes.nextOf (.ref i1) >>= _) _ _ _
  refine wpAny_bind (D1.done _ _ _ (D1.over st1 hs₁ S.zf1) fun h₂ e hs₂ he => ?_)
  exact hE h₂ e (fun c o c1 c2 _ x => hs₂ _ _ c2 (hs₁.extBut _ _ c1 x)) he
theorem pyNext_zipD2_item_held {T : Addr} {f : Bool} {oT : Obj} {Q : Option Value → Shared → Prop} (S : ZipSep2 z TI TO i1 i2 fp1 fp2) (D1 : Draws prog w A.in1 i1 fp1 n1 P1 St1) (D2 : Draws prog w A.in1 i2 fp2 n2 P2 St2)
    (hz : IsZipHeld s.heap z TI TO T f) (hT : s.heap.get? T = some oT) (hTI : IsTupOf2 s.heap TI (.ref i1) (.ref i2)) (st1 : St1 i s.heap) (st2 : St2 i s.heap) (hlt1 : i < n1) (hlt2 : i < n2)
    (hQ : ∀ x1 x2 h' tk, P1 i x1 → P2 i x2 → IsZipHeld h' z TI TO T true → St1 (i + 1) h' → St2 (i + 1) h' → IsTupOf2 h' s.heap.objs.size x1 x2 → h'.objs.size = s.heap.objs.size + 1 →
      (∀ c o, c ≠ z → c ≠ i1 → c ≠ i2 → s.heap.get? c = some o → h'.get? c = some o) → Q (some (.ref s.heap.objs.size)) { s with heap := h', toks := tk }) :
    wpAny (model prog w) A (pyNext (.ref z)) Q E s := by
  have hTy : s.TypeIs (.ref z) "zip" := ⟨_, hz, rfl⟩
  unfold pyNext
  exact wpAny_bind (wpAny_attempt (wpAny_callSpecial?_slot (name := Str.ofString "__next__") hTy F.slot_zip_next
    (wpAny_call_entry F.slot_zip_next hTy F.entry_zip_next
      (zipD2_item_held S D1 D2 hz hT hTI st1 st2 hlt1 hlt2 fun x1 x2 h' tk y1 y2 a1 a3 a4 a5 a6 a7 => wpAny_pure (hQ x1 x2 h' tk y1 y2 a1 a3 a4 a5 a6 a7)) (F.args_zip_next_1 _))))
theorem pyNext_zipD2_end_held {T : Addr} {f : Bool} {oT : Obj} {Q : Option Value → Shared → Prop} (S : ZipSep2 z TI TO i1 i2 fp1 fp2) (D1 : Draws prog w A.in1 i1 fp1 n1 P1 St1) (D2 : Draws prog w A.in1 i2 fp2 n1 P2 St2)
    (hz : IsZipHeld s.heap z TI TO T f) (hT : s.heap.get? T = some oT) (hTI : IsTupOf2 s.heap TI (.ref i1) (.ref i2)) (st1 : St1 n1 s.heap)
    (hQ : ∀ h', (∀ c o, c ≠ z → c ≠ i1 → c ≠ i2 → s.heap.get? c = some o → h'.get? c = some o) → Q none { s with heap := h' }) : wpAny (model prog w) A (pyNext (.ref z)) Q E s := by
  have hTy : s.TypeIs (.ref z) "zip" := ⟨_, hz, rfl⟩
  unfold pyNext
  refine wpAny_bind (wpAny_attempt (wpAny_callSpecial?_slot (name := Str.ofString "__next__") hTy F.slot_zip_next
    (wpAny_call_entry F.slot_zip_next hTy F.entry_zip_next (zipD2_end_held S D1 D2 hz hT hTI st1 fun h' e hk he => ?_) (F.args_zip_next_1 _))))
  obtain ⟨o, ho, hc⟩ := he
  refine wpAny_bind (wpAny_isInstance (T := "StopIteration") (b := true) ⟨o, ho, hc⟩ isSubtype_stop ?_)
  exact wpAny_pure (hQ _ hk)
theorem pairArg_zipD2 (S : ZipSep2 z TI TO i1 i2 fp1 fp2) (D1 : ∀ A : Around, A.handled = none → Draws prog w A i1 fp1 n1 P1 St1) (D2 : ∀ A : Around, A.handled = none → Draws prog w A i2 fp2 n1 P2 St2) :
    PairArg prog w "zip" z (z :: TI :: TO :: (fp1 ++ fp2)) [z, TO, i1, i2] n1 (fun i k v => P1 i k ∧ P2 i v)
      (fun h => IsZip h z TI TO .none ∧ IsTupOf2 h TI (.ref i1) (.ref i2) ∧ (∃ a b, IsTupOf2 h TO a b) ∧ St1 0 h ∧ St2 0 h ∧ ∀ b ∈ fp1 ++ fp2, ∃ o, h.get? b = some o) where
  type := fun s ok => ⟨_, ok.1, rfl⟩
  notDict := by decide
  keep := fun h h' ok hk => by
    obtain ⟨hz, hTI, ⟨a, b, hTO⟩, h1, h2, ex⟩ := ok
    exact ⟨hk _ _ hz, hk _ _ hTI, ⟨a, b, hk _ _ hTO⟩, (D1 callerA rfl).frame _ _ _ h1 fun b _ o e => hk b o e, (D2 callerA rfl).frame _ _ _ h2 fun b _ o e => hk b o e, fun b hb => let ⟨o, e⟩ := ex b hb; ⟨o, hk _ _ e⟩⟩
  there := fun h ok b hb => by
    obtain ⟨hz, hTI, ⟨a, c, hTO⟩, _, _, ex⟩ := ok
    rcases List.mem_cons.mp hb with rfl | hb
    · exact ⟨_, hz⟩
    rcases List.mem_cons.mp hb with rfl | hb
    · exact ⟨_, hTI⟩
    rcases List.mem_cons.mp hb with rfl | hb
    · exact ⟨_, hTO⟩
    exact ex b hb
  sub := fun b hb => by
    have e : b = z ∨ b = TO ∨ b = i1 ∨ b = i2 := by simpa using hb
    rcases e with rfl | rfl | rfl | rfl
    · simp
    · simp
    · have := S.mem1; simp [this]
    · have := S.mem2; simp [this]
  noKeys := fun A s Q E hA ok h => getAttrOr_miss_zip ok.1 rfl rfl rfl zip_no_keys (by decide +kernel) hA h
  iter := fun A s d Q E hA ok hd hdf h => by
    obtain ⟨hz, hTI, ⟨a, b, hTO⟩, h1, h2, _⟩ := ok
    have dz : d ≠ z := fun e => hdf (by simp [e])
    have dTI : d ≠ TI := fun e => hdf (by simp [e])
    have dTO : d ≠ TO := fun e => hdf (by simp [e])
    have df1 : ∀ b ∈ fp1, b ≠ d := fun b hb e => hdf (by subst e; simp [hb])
    have df2 : ∀ b ∈ fp2, b ≠ d := fun b hb e => hdf (by subst e; simp [hb])
    have dI1 := (df1 _ S.mem1).symm
    have dI2 := (df2 _ S.mem2).symm
    refine wpAny_pyIter_zip hz (h z [z, TO, i1, i2] (fun i h => IsTupOf2 h TI (.ref i1) (.ref i2) ∧ St1 i h ∧ St2 i h ∧
      ((IsZip h z TI TO .none ∧ ∃ a b, IsTupOf2 h TO a b) ∨ ∃ T f oT, IsZipHeld h z TI TO T f ∧ h.get? T = some oT ∧ T ≠ z ∧ T ≠ i1 ∧ T ≠ i2 ∧ T ≠ d)) s.heap s.toks ?_
      ⟨hTI, h1, h2, .inl ⟨hz, a, b, hTO⟩⟩ (fun _ _ e => e) fun b hb => .inl hb)
    exact {
      off := fun hm => by
        have e : d = z ∨ d = TO ∨ d = i1 ∨ d = i2 := by simpa using hm
        rcases e with e | e | e | e
        · exact dz e
        · exact dTO e
        · exact dI1 e
        · exact dI2 e
      frame := fun i h₁ h₂ st hk => by
        obtain ⟨hTI, h1, h2, hz⟩ := st
        refine ⟨hk _ _ (Ne.symm dTI) hTI, (D1 A hA).frame _ _ _ h1 fun b hb o e => hk b o (df1 b hb) e, (D2 A hA).frame _ _ _ h2 fun b hb o e => hk b o (df2 b hb) e, ?_⟩
        rcases hz with ⟨hz, a, b, hTO⟩ | ⟨T, f, oT, hz, hT, r1, r2, r3, r4⟩
        · exact .inl ⟨hk _ _ (Ne.symm dz) hz, a, b, hk _ _ (Ne.symm dTO) hTO⟩
        · exact .inr ⟨T, f, oT, hk _ _ (Ne.symm dz) hz, hk _ _ r4 hT, r1, r2, r3, r4⟩
      item := fun i s₁ Q₁ E₁ hi st hds hQ => by
        obtain ⟨hTI, h1, h2, hz⟩ := st
        have lt : ∀ {c o}, s₁.heap.get? c = some o → s₁.heap.objs.size ≠ c := fun e => Nat.ne_of_gt (Heap.lt_size e)
        have n1' : s₁.heap.objs.size ≠ i1 := let ⟨_, e⟩ := (D1 A hA).live _ _ h1; lt e
        have n2' : s₁.heap.objs.size ≠ i2 := let ⟨_, e⟩ := (D2 A hA).live _ _ h2; lt e
        rcases hz with ⟨hz, a, b, hTO⟩ | ⟨T, f, oT, hz, hT, r1, r2, r3, r4⟩
        · refine wpAny_pyNext_zipD2_item S (D1 A.in1 hA) (D2 A.in1 hA) hz hTI hTO h1 h2 hi hi fun x1 x2 h' tk p1 p2 a1 a2 a3 a4 a5 a6 hk => ?_
          exact hQ s₁.heap.objs.size _ _ h' tk ⟨p1, p2⟩ (.inl ⟨_, a5, rfl, _, rfl⟩)
            ⟨hk _ _ S.TIz S.TITO S.TIi1 S.TIi2 hTI, a3, a4, .inr ⟨s₁.heap.objs.size, false, _, a1, a5, lt hz, n1', n2', Nat.ne_of_gt hds⟩⟩
            fun c o hc e => hk c o (fun x => hc (by simp [x])) (fun x => hc (by simp [x])) (fun x => hc (by simp [x])) (fun x => hc (by simp [x])) e
        · refine pyNext_zipD2_item_held S (D1 A.in1 hA) (D2 A.in1 hA) hz hT hTI h1 h2 hi hi fun x1 x2 h' tk p1 p2 a1 a3 a4 a5 a6 hk => ?_
          exact hQ s₁.heap.objs.size _ _ h' tk ⟨p1, p2⟩ (.inl ⟨_, a5, rfl, _, rfl⟩)
            ⟨hk _ _ S.TIz S.TIi1 S.TIi2 hTI, a3, a4, .inr ⟨T, true, oT, a1, hk _ _ r1 r2 r3 hT, r1, r2, r3, r4⟩⟩
            fun c o hc e => hk c o (fun x => hc (by simp [x])) (fun x => hc (by simp [x])) (fun x => hc (by simp [x])) e
      done := fun s₁ Q₁ E₁ st hQ => by
        obtain ⟨hTI, h1, h2, hz⟩ := st
        rcases hz with ⟨hz, a, b, hTO⟩ | ⟨T, f, oT, hz, hT, r1, r2, r3, r4⟩
        · exact wpAny_pyNext_zipD2_end S (D1 A.in1 hA) (D2 A.in1 hA) hz hTI hTO h1 h2 (Nat.le_refl _) (Nat.le_refl _) (.inl rfl) fun h' tk hk => hQ h' tk
            fun c o hc e => hk c o (fun x => hc (by simp [x])) (fun x => hc (by simp [x])) (fun x => hc (by simp [x])) (fun x => hc (by simp [x])) e
        · exact pyNext_zipD2_end_held S (D1 A.in1 hA) (D2 A.in1 hA) hz hT hTI h1 fun h' hk => hQ h' s₁.toks
            fun c o hc e => hk c o (fun x => hc (by simp [x])) (fun x => hc (by simp [x])) (fun x => hc (by simp [x])) e }
end
theorem zip_map_get {α β γ : Type} (f : α → β → γ) : ∀ (l : List α) (m : List β) (i : Nat), ((l.zip m).map fun p => f p.1 p.2)[i]? = (l[i]?.bind fun a => m[i]?.map fun b => f a b)
  | [], _, i => by simp
  | a :: l, [], i => by cases h : (a :: l)[i]? <;> simp
  | a :: l, b :: m, 0 => rfl
  | a :: l, b :: m, i + 1 => by simpa using zip_map_get f l m i
theorem paired_zip {l : List Nat} : ∀ {ys : List V} {its : List Value}, Vals ys its → KV ((l.zip ys).map fun p => (tk [p.1], p.2)) ((l.zip its).map fun p => (tk [p.1], p.2)) := by
  induction l with
  | nil => intro ys its _; exact .nil
  | cons c l ih =>
    intro ys its r
    cases r with
    | nil => exact .nil
    | cons h t => exact .cons ⟨rfl, h⟩ (ih t)
def tDictZip (K : PySem.W.Frag) (ta : TA) : TE := fun σ H Q => ta σ H fun vs H1 => ∃ (l : List Nat) (b : Addr) (ys : List V), vs = [.str (S l), .ref b] ∧ SqT K H1 b ys ∧ ys.length = l.length ∧ l.length ≤ 1000 ∧
  ∀ p, H1 p = none → Q (.ref p) (upd H1 p (.dK (mergeK [] ((l.zip ys).map fun p => (tk [p.1], p.2)))))
theorem pe_dictZip {X : Cx} {e e2 : Expr} {ta : TA} {p p2 pos pos2 : Pos} (hc : X.calm = true) (hgd : Gl X "dict") (hmd : X.mg "dict" = none) (hg : Gl X "zip") (hm : X.mg "zip" = none) (ha : PA X [e, e2] ta)
    (hs : starEach [e, e2] X.env = (false, eval e X.env) :: starEach [e2] X.env := by rfl) (hpl : (backTo pos2 (starEach [e2] X.env)).any (·.1) = false := by rfl)
    (hs' : starEach [.Call (.Name "zip" p2) [e, e2] [] pos2] X.env = (false, eval (.Call (.Name "zip" p2) [e, e2] [] pos2) X.env) :: starEach [] X.env := by rfl) (hpl' : (backTo pos (starEach [] X.env)).any (·.1) = false := by rfl) :
    PE X (.Call (.Name "dict" p) [.Call (.Name "zip" p2) [e, e2] [] pos2] [] pos) (tDictZip X.K ta) := by
  refine ⟨fun pins s σ H Q I h => ?_⟩
  refine Call_ (ld_blt I hgd hmd PyProof.Rows.boot_dict (PyProof.Rows.callWith_type1 (Q := EP X pins σ Q) ?_ hs' hpl'))
  rw [hs']
  refine PySem.Calls.spliced_cons ?_
  refine Call_ (ld_blt I hg hm PyProof.Rows.boot_zip (PyProof.Rows.callWith_type1 (thn (ha.run pos2 pins s σ H _ I h) fun us s1 ⟨vs, H1, I1, r1, q1⟩ => ?_) hs hpl))
  obtain ⟨l, b, ys, ex, hb, hl, hz, q⟩ := q1
  subst ex
  obtain ⟨u, u', rfl, r, r'⟩ := vals2 r1
  obtain ⟨t, rfl⟩ := (show ∃ t, u = Value.str (S l) t from r)
  obtain rfl : u' = Value.ref b := r'
  obtain ⟨its, rv, ht, _⟩ := I1.tuple hb
  have hlen : its.toArray.size = (S l).cps.size := by rw [List.size_toArray, ← rv.length, hl]; simp [S]
  have hbl : b < s1.heap.objs.size := ht.lt
  refine zip_begins2 (begins_text (S l) t) (begins_tuple b its.toArray) trivial ht fun h' hz' hTI hTO h1 h2 hsz hk => ?_
  refine PySem.Calls.spliced_nil ?_
  have I2 : Inv X pins σ H1 { s1 with heap := h' } := I1.kept (t' := s1.toks) hk
  have f2 : ∀ a ∈ [b], a < s1.heap.objs.size := fun a h => by rw [List.mem_singleton.mp h]; exact hbl
  have S2 := PySem.zip_sep2 (N := s1.heap.objs.size) (fp1 := []) (fp2 := [b]) (fun _ h => nomatch h) f2
  have P := pairArg_zipD2 (prog := X.prog) (w := X.w) S2 (fun A hh => Draws.text hh s1.heap.objs.size (S l) t)
    (fun A hh => hlen ▸ Draws.tuple hh (s1.heap.objs.size + 1) b (Nat.ne_of_lt (Nat.lt_succ_of_lt hbl)) its.toArray)
  have ht2 : h'.IsTuple b its.toArray := (show s1.heap.IsTuple b its.toArray from ht).at fun o e => hk _ _ e
  have hn : H1 h'.objs.size = none := I2.hok.fresh (Nat.le_refl _)
  have hl2 : its.length = l.length := by rw [← rv.length, hl]
  refine PySem.call_dict_pairs (knd := mixKind X.prog X.w) (kvs := (l.zip its).map fun p => (tk [p.1], p.2)) P (I1.ok.hd hc) ?_ ⟨?_, ?_⟩ ?_ fun h3 tk3 hd3 hk3 => ?_
  · refine ⟨hz', hTI, ⟨_, _, hTO⟩, ⟨_, h1, rfl, rfl⟩, ⟨⟨_, h2, rfl, rfl⟩, ht2⟩, fun a ha => ?_⟩
    have e : a = s1.heap.objs.size ∨ a = s1.heap.objs.size + 1 ∨ a = b := by simpa using ha
    rcases e with rfl | rfl | rfl
    · exact ⟨_, h1⟩
    · exact ⟨_, h2⟩
    · obtain ⟨o, e, _⟩ := ht2; exact ⟨o, e⟩
  · rw [List.length_map, List.length_zip, hl2, Nat.min_self]; simp [S]
  · rintro i key v ⟨⟨c, u, hc', rfl⟩, hv⟩
    have hc2 : l[i]? = some c := by simpa [S] using hc'
    have hv2 : its[i]? = some v := by simpa using hv
    refine ⟨tk [c], ?_, kV_is (P := X.prog) (w := X.w) (k := tk [c]) ⟨u, rfl⟩⟩
    rw [zip_map_get (fun a b => (tk [a], b)), hc2, hv2]; rfl
  · simp [S]; exact Nat.le_trans hz (by decide)
  · have kvr : KV ((l.zip ys).map fun p => (tk [p.1], p.2)) ((l.zip its).map fun p => (tk [p.1], p.2)) := paired_zip rv
    have hm' : (h'.objs.size == sysModules) = false := beq_eq_false_iff_ne.mpr (Nat.ne_of_gt I2.big)
    have hlen2 : (mergeK [] ((l.zip ys).map fun p => (tk [p.1], p.2))).length ≤ sizeLine := by
      refine Nat.le_trans (length_mergeK _ []) ?_
      rw [List.length_nil, Nat.zero_add, List.length_map, List.length_zip, hl, Nat.min_self]
      exact Nat.le_trans hz (by decide)
    have keep3 : ∀ c o, s1.heap.get? c = some o → h3.get? c = some o := fun c o e => hk3 c o (fun hm => by
      have hlt : c < s1.heap.objs.size := Heap.lt_size e
      have e' : c = s1.heap.objs.size + 4 ∨ c = s1.heap.objs.size + 3 ∨ c = s1.heap.objs.size ∨ c = s1.heap.objs.size + 1 := by simpa using hm
      have hle : s1.heap.objs.size ≤ c := by
        rcases e' with z | z | z | z
        · rw [z]; exact Nat.le_add_right _ _
        · rw [z]; exact Nat.le_add_right _ _
        · rw [z]; exact Nat.le_refl _
        · rw [z]; exact Nat.le_add_right _ _
      exact Nat.lt_irrefl _ (Nat.lt_of_lt_of_le hlt hle)) (hk _ _ e)
    have hsz5 : s1.heap.objs.size ≤ h'.objs.size := by rw [hsz]; omega
    exact ⟨.ref h'.objs.size, upd H1 h'.objs.size (.dK (mergeK [] ((l.zip ys).map fun p => (tk [p.1], p.2)))), I1.laid (t' := tk3) keep3 hsz5 (show ObjOk X.prog X.w _ _ _ (.dK _) from ⟨hlen2, hm', merged [] _, KV.merge kvr .nil, hd3⟩), rfl, q _ hn⟩
end LX
set_option maxHeartbeats 2000000
namespace LX
open PySem PySem.Spec PyProof.Rows L2 C8 SX
theorem meets_enum1 {v : Value} {o : Obj} {H : Heap → Prop} (B : Begins v o H) :
    Meets (Builtin.«enumerate.__new__» ⟨[.type "enumerate", v], []⟩) (fun _ R s => H s.heap ∧
      R (.ok (.ret (.ref (s.heap.push o).objs.size))) { s with heap := (s.heap.push o).push { cls := .type "enumerate", data := .fields #[.none, .bool false, .ref s.heap.objs.size, rawInt 0, .none, .none] } }) :=
  .of_wp fun prog w A R s h => by
    obtain ⟨hp, g, d, tk, os⟩ := s; obtain ⟨h1, h⟩ := h
    have hsub := sub_enumerate
    have q1 : ∀ {A' : Around} {E : Value → Shared → Prop} {Q : Value → Shared → Prop}, Q (.ref hp.objs.size) ⟨hp.push o, g, d, tk, os⟩ → wpAny (model prog w) A' (pyIter v) Q E ⟨hp, g, d, tk, os⟩ :=
      fun q => B.iter prog w _ _ ⟨hp, g, d, tk, os⟩ _ h1 q
    wp_walk using q1
    refine wpAny_stack_any fun st => wpAny_pure ?_
    split
    · rename_i c _ _ _ _ _
      cases (c == Value.type "enumerate")
      · wp_walk using q1
        exact ⟨_, rfl, h⟩
      · wp_walk using q1
        exact ⟨_, rfl, h⟩
    · wp_walk using q1
      exact ⟨_, rfl, h⟩
theorem enum1_begins {prog : Program} {w : World} {A : Around} {E : Value → Shared → Prop} {s : Shared} {v : Value} {o : Obj} {H : Heap → Prop} {Q : Value → Shared → Prop} (B : Begins v o H) (h1 : H s.heap)
    (h : ∀ h', IsEnum h' (s.heap.objs.size + 1) s.heap.objs.size 0 .none → h'.get? s.heap.objs.size = some o → h'.objs.size = s.heap.objs.size + 2 →
      (∀ b o, s.heap.get? b = some o → h'.get? b = some o) → Q (.ref (s.heap.objs.size + 1)) { s with heap := h' }) :
    wpAny (model prog w) A (call (.type "enumerate") [v]) Q E s := by
  refine callType_new F.called_enumerate (by decide) (F.typeCall_enumerate_1 _) (F.newCall_enumerate_1 _) (fun obj => F.args_object_init_2 obj _) F.entry_enumerate_new
    (meets_enum1 B) ⟨h1, ?_⟩
  have hz : (s.heap.push o).objs.size = s.heap.objs.size + 1 := Heap.size_push ..
  show _ ∧ _
  rw [hz]
  have he : IsEnum ((s.heap.push o).push { cls := .type "enumerate", data := .fields #[.none, .bool false, .ref s.heap.objs.size, rawInt 0, .none, .none] }) (s.heap.objs.size + 1) s.heap.objs.size 0 .none := by
    have := Heap.get?_push_size (s.heap.push o) (o := { cls := .type "enumerate", data := .fields #[.none, .bool false, .ref s.heap.objs.size, rawInt 0, .none, .none] }) rfl
    rw [hz] at this; exact this
  refine ⟨⟨_, he, rfl⟩, h _ he (Heap.get?_push_of_some _ (Heap.get?_push_size _ B.free)) (by rw [Heap.size_push, hz]) fun b o x => Heap.get?_push_of_some _ (Heap.get?_push_of_some _ x)⟩
def IteX (K : PySem.W.Frag) (S : Sr) : It :=
  ⟨fun i H => S.has K i H, fun i H v H' => ∃ T x, v = .ref T ∧ H T = none ∧ H' = upd H T (.tup [.int (i : Nat), x]) ∧ S.val K i H x, fun i H => S.upto K i H ∧ S.ends K i H⟩
theorem turn_enumX {P : Program} {w : World} {K : PySem.W.Frag} {elts : List Expr} {kk : Nat} {tpos : Pos} {e it : Addr} (S : Sr) (n1 : ∀ a ∈ S.fp, a ≠ it) (ne : e ≠ it) (nf : e ∉ S.fp) :
    Turn P w K (.Tuple elts kk tpos) (IteX K S) [e, it] e (fun i h => (∃ old, IsEnum h e it ((i : Nat) : Int) old) ∧ S.tn it i h) where
  mem := by simp
  obj := fun i h st b hb => by
    obtain ⟨⟨old, he⟩, h1⟩ := st
    have e' : b = e ∨ b = it := by simpa using hb
    rcases e' with z | z
    · rw [z]; exact ⟨_, he, fun v q => nomatch q⟩
    · rw [z]; exact Sr.tn_obj h1
  keep := fun i h h' st k => let ⟨⟨old, he⟩, h1⟩ := st; ⟨⟨old, k e (by simp) _ he⟩, Sr.tn_keep h1 fun o q => k it (by simp) o q⟩
  item := by
    intro X hP hw hK hc i pins s σ H E I hf st hg
    subst hP hw hK
    obtain ⟨⟨old, he⟩, h1⟩ := st
    obtain ⟨m1, ⟨P1, St1, D1, st1, v1, t1⟩, _, lt1, _⟩ := S.draws I n1 h1 (Sr.has_upto hg)
    have hel : e < s.heap.objs.size := Heap.lt_size he
    have hil : it < s.heap.objs.size := by obtain ⟨_, q, _⟩ := Sr.tn_obj h1; exact Heap.lt_size q
    refine wpAny_pyNext_enum_itemD (D1 _ (I.ok.hd hc)) he st1 (lt1 hg) ne (by simp [ne, nf]) fun u h' tk p1 ho st1' hT hsz hk => ?_
    obtain ⟨x, hx, rx⟩ := v1 u p1
    refine ⟨_, rfl, wpAny_letOwnedTupleGo_enum (s := { s with heap := h', toks := tk + 1 }) ho fun h'' he' sb => ?_⟩
    have hT2 : h''.get? s.heap.objs.size = some { cls := .type "tuple", data := .seq #[.int i tk, u] } := (sb.2 _ (Nat.ne_of_gt hel)).trans hT
    have new : ObjOk X.prog X.w (upd H s.heap.objs.size (.tup [.int (i : Nat), x])) h'' s.heap.objs.size (.tup [.int (i : Nat), x]) :=
      ⟨by show 2 ≤ sizeLine; decide, [.int i tk, u], .cons ⟨_, rfl⟩ (.cons rx .nil), ⟨_, hT2, rfl, _, rfl⟩⟩
    have I1 : Inv X pins σ (upd H s.heap.objs.size (.tup [.int (i : Nat), x])) { s with heap := h'', toks := tk + 1 } :=
      I.turnedNew (ch := [e, it]) (fun b ob hb q => (sb.2 b (fun z => hb (by simp [z]))).trans (hk b ob (fun z => hb (by simp [z])) (fun z => hb (by simp [z])) q)) hf (Nat.le_refl _) new
    refine ⟨.ref s.heap.objs.size, _, I1, rfl, ⟨_, x, rfl, I.hok.fresh (Nat.le_refl _), rfl, hx⟩, ⟨⟨u, ?_⟩, Sr.tn_keep (t1 _ _ st1') fun o q => (sb.2 it (Ne.symm ne)).trans q⟩, fun b hb => ?_⟩
    · have e1 : ((i + 1 : Nat) : Int) = (i : Int) + 1 := by omega
      rw [e1]; exact he'
    · have hb' : b < s.heap.objs.size := by
        have e' : b = e ∨ b = it := by simpa using hb
        rcases e' with z | z
        · rw [z]; exact hel
        · rw [z]; exact hil
      rw [upd_ne (Nat.ne_of_lt hb')]
      exact (hf b hb).1
  done := by
    intro X hP hw hK hc i pins s σ H E I hf st hg
    subst hP hw hK
    obtain ⟨⟨old, he⟩, h1⟩ := st
    obtain ⟨g1, ge⟩ := hg
    obtain ⟨m1, ⟨P1, St1, D1, st1, v1, t1⟩, _, _, eq1⟩ := S.draws I n1 h1 g1
    obtain ⟨f0, f1, f2, f3, f4, f5⟩ := hf it (by simp)
    have e1 := eq1 ge
    subst e1
    exact wpAny_pyNext_enum_endD (D1 _ (I.ok.hd hc)) he st1 fun h' eb => ⟨rfl, I.turned (t' := s.toks) (fun b o hb q => eb b o hb q) f0 f1 f3 f4 f5⟩
  self := fun A i s Q E st h => let ⟨⟨_, he⟩, _⟩ := st; wpAny_pyIter_enum he h
def iEnumX (K : PySem.W.Frag) (ta : TA) : TI := fun σ H R => ta σ H fun vs H1 => ∃ (x : V) (S : Sr), vs = [x] ∧ S.of x ∧ S.there K H1 ∧ R (IteX K S) H1
theorem pi_enumX {X : Cx} {e : Expr} {ta : TA} {p pos tpos : Pos} {elts : List Expr} {kk : Nat} (hg : Gl X "enumerate") (hm : X.mg "enumerate" = none) (ha : PA X [e] ta) (hs : starEach [e] X.env = [(false, eval e X.env)] := by rfl) :
    PI X (.Tuple elts kk tpos) (.Call (.Name "enumerate" p) [e] [] pos) (iEnumX X.K ta) := by
  refine ⟨fun pins s σ H R I h => ?_⟩
  refine Call_ (ld_blt I hg hm PyProof.Rows.boot_enumerate (PyProof.Rows.callWith_type1 (thn (ha.run pos pins s σ H _ I h) fun us s1 ⟨vs, H1, I1, r1, q1⟩ => ?_) hs rfl))
  obtain ⟨x, S, ex, e1, th1, q⟩ := q1
  subst ex
  obtain ⟨u, rfl, r⟩ := vals1 r1
  obtain ⟨o1, HH1, B1, b1, f1, t1⟩ := Sr.begins I1 r e1 th1
  refine enum1_begins B1 b1 fun h' he hit hsz hk => wpAny_pyIter_enum he ?_
  have I2 : Inv X pins σ H1 { s1 with heap := h' } := I1.kept (t' := s1.toks) hk
  refine ⟨s1.heap.objs.size + 1, [s1.heap.objs.size + 1, s1.heap.objs.size], _, _, H1, rfl, I2, turn_enumX S (fun a ha => Nat.ne_of_lt (f1 a ha)) (Nat.succ_ne_self _) (fun hm => Nat.not_lt.mpr (Nat.le_add_right _ _) (f1 _ hm)), ⟨⟨.none, he⟩, t1 _ _ hit⟩, fun b hb => ?_, q⟩
  have e' : b = s1.heap.objs.size + 1 ∨ b = s1.heap.objs.size := by simpa using hb
  have hle : s1.heap.objs.size ≤ b := by
    rcases e' with z | z
    · rw [z]; exact Nat.le_add_right _ _
    · rw [z]; exact Nat.le_refl _
  exact I1.fpOk hle (I1.hok.fresh hle)
theorem walk_enumX {K : PySem.W.Frag} {S : Sr} {xs : List V} : Walk (IteX K S) xs.length (fun H => S.is K H xs) (YPair (fun i => some (.int (i : Nat))) (fun i => xs[i]?)) := by
  refine ⟨fun i H hi q => Sr.is_has hi q, fun H q => ⟨Sr.is_upto (Nat.le_refl _) q, Sr.is_ends rfl q⟩, fun i H v H' _ q y => ?_⟩
  obtain ⟨T, x, h1, h2, h3, h4⟩ := y
  exact ⟨T, .int (i : Nat), x, h1, h2, h3, rfl, Sr.is_val q h4⟩
theorem dc_keep {Rel : Hp → Hp → Prop} {J : It} {n : Nat} {G : Hp → Prop} {Y : Nat → Hp → V → Hp → Prop} {H1 : Hp} (kp : Keep Rel H1) (w : Walk J n G Y) {g : TG} {ka te : TE} {vs : List Nat} {σ : L2.St} {D : Addr} {Qd : Hp → Prop} (hD : H1 D = none) (hn : n < sizeLine)
    (key : Nat → Key) (Good : Nat → V → Hp → Prop) (hG : ∀ H, Rel H1 H → G H) (inj : ∀ i j, i < n → j < i → key j ≠ key i)
    (st : ∀ i y H H', Rel H1 H → Rel H H' → Good i y H → Good i y H') (pt : ∀ i y H acc o, Rel H1 H → H D = some (.dK acc) → Good i y H → Good i y (upd H D o))
    (hs : ∀ i x H H' acc (R : V → V → Hp → Prop), i < n → Rel H1 H → H D = some (.dK acc) → Y i H x H' → (∀ y H4, Rel H H4 → Good i y H4 → R (kV (key i)) y H4) → g x (wipe σ vs) H' fun σ2 H2 => wipe σ2 vs = wipe σ vs ∧ ka σ2 H2 fun k H3 => te σ2 H3 fun z H4 => R k z H4)
    (hd : ∀ ys H, ys.length = n → (∀ (j : Nat) y, ys[j]? = some y → Good j y H) → Rel H1 H → H D = some (.dK ((List.range n).zip ys |>.map fun p => (key p.1, p.2))) → Qd H) :
    ∃ W : Nat → Nat → Hp → Prop, (∃ m, W 0 m (upd H1 D (.dK []))) ∧ ∀ i m H, W i m H →
      (J.stop i H ∧ Qd H) ∨ (J.go i H ∧ ∃ Nx : Hp → Prop, (∀ H', Nx H' → ∃ m', m' < m ∧ W (i + 1) m' H') ∧ ∀ x H', J.yld i H x H' → g x (wipe σ vs) H' fun σ2 H2 => wipe σ2 vs = wipe σ vs ∧ tYes σ2 H2 fun b H3 =>
        if b = true then ka σ2 H3 fun y H4 => te σ2 H4 fun z H5 => ∃ kvs k, y = kV k ∧ H5 D = some (.dK kvs) ∧ kvs.length < sizeLine ∧ Nx (upd H5 D (.dK (putK kvs k z))) else Nx H3) := by
  refine ⟨fun i m H => m = n - i ∧ i ≤ n ∧ ∃ ys : List V, ys.length = i ∧ H D = some (.dK ((List.range i).zip ys |>.map fun p => (key p.1, p.2))) ∧ Rel H1 H ∧ ∀ (j : Nat) y, ys[j]? = some y → Good j y H, ⟨n, by omega, Nat.zero_le _, [], rfl, upd_same, kp.put _ _ _ kp.refl hD, fun j y e => by simp at e⟩, ?_⟩
  rintro i m H ⟨rfl, hi, ys, hl, hDa, r, hg⟩
  rcases Nat.lt_or_ge i n with h | h
  · refine .inr ⟨w.goes i H h (hG H r), fun H' => ∃ ys : List V, ys.length = i + 1 ∧ H' D = some (.dK ((List.range (i + 1)).zip ys |>.map fun p => (key p.1, p.2))) ∧ Rel H1 H' ∧ ∀ (j : Nat) y, ys[j]? = some y → Good j y H', fun H' h' => ⟨n - (i + 1), by omega, rfl, h, h'⟩, fun x H' hy => ?_⟩
    have key2 : ∀ (z : V) H5, Rel H H5 → Good i z H5 → ∃ kvs k, kV (key i) = kV k ∧ H5 D = some (.dK kvs) ∧ kvs.length < sizeLine ∧ ∃ ys : List V, ys.length = i + 1 ∧ (upd H5 D (.dK (putK kvs k z))) D = some (.dK ((List.range (i + 1)).zip ys |>.map fun p => (key p.1, p.2))) ∧ Rel H1 (upd H5 D (.dK (putK kvs k z))) ∧ ∀ (j : Nat) y, ys[j]? = some y → Good j y (upd H5 D (.dK (putK kvs k z))) := fun z H5 r5 gz => by
      have hD5 := kp.get _ _ _ _ r5 hD r hDa
      have r6 := kp.trans _ _ r r5
      refine ⟨_, key i, rfl, hD5, by rw [List.length_map, List.length_zip, List.length_range, hl]; omega, ys ++ [z], by simp [hl], ?_, kp.put _ _ _ r6 hD, fun j y e => ?_⟩
      · rw [upd_same]
        congr 2
        rw [putK_new _ (valV_none fun p hp => ?_), List.range_succ, List.zip_append (by rw [List.length_range, hl])]
        · simp
        · obtain ⟨q, hq, rfl⟩ := List.mem_map.mp hp
          have : q.1 < i := List.mem_range.mp (List.of_mem_zip hq).1
          exact inj i q.1 h this
      · rcases Nat.lt_or_ge j ys.length with h | h
        · rw [List.getElem?_append_left h] at e
          exact pt _ _ _ _ _ r6 hD5 (st _ _ _ _ r r5 (hg j y e))
        · rw [List.getElem?_append_right h] at e
          have hj : j - ys.length = 0 := by
            rcases Nat.lt_or_ge (j - ys.length) 1 with z | z
            · omega
            · rw [List.getElem?_eq_none (by simpa using z)] at e; cases e
          rw [hj] at e
          have : z = y := Option.some.inj e
          subst this
          have : j = i := by omega
          subst this
          exact pt _ _ _ _ _ r6 hD5 gz
    exact hs i x H H' _ (fun k z H5 => ∃ kvs k', k = kV k' ∧ H5 D = some (.dK kvs) ∧ kvs.length < sizeLine ∧ ∃ ys : List V, ys.length = i + 1 ∧ (upd H5 D (.dK (putK kvs k' z))) D = some (.dK ((List.range (i + 1)).zip ys |>.map fun p => (key p.1, p.2))) ∧ Rel H1 (upd H5 D (.dK (putK kvs k' z))) ∧ ∀ (j : Nat) y, ys[j]? = some y → Good j y (upd H5 D (.dK (putK kvs k' z)))) h r hDa (w.yields i H x H' h (hG H r) hy) fun y H4 r4 gy => key2 y H4 r4 gy
  · have : i = n := by omega
    subst this
    exact .inl ⟨w.stops H (hG H r), hd ys H hl hg r hDa⟩
end LX
set_option maxHeartbeats 4000000
namespace LX
open PySem PySem.Spec PyProof.Rows L2 C8 SX
theorem inK {X : Cx} (K : PySem.W.Frag) (h : X.K = K := by rfl) : OpR X (compareOp .In) (rIn K false) := by subst h; exact op_in_seq
theorem notInK {X : Cx} (K : PySem.W.Frag) (h : X.K = K := by rfl) : OpR X (compareOp .NotIn) (rIn K true) := by subst h; exact op_notIn_seq
section
variable {prog : Program} {w : World} {A : Around} {R : Result → Shared → Prop} {I S : Addr} {fp wr : List Addr} {G : Array GenState → Array GenState → Prop} {n : Nat} {P : Nat → Value → Prop} {St : Nat → Shared → Prop}
abbrev setO (led : Bool) : Obj := { cls := .type "set", dict := none, data := .set #[] 0 (.fresh 0 0 led) }
abbrev Elem (prog : Program) (w : World) (xs : List Str) (i : Nat) (S : Addr) (h : Heap) : Prop := h.SetOf (PySem.strKind prog w) S (fun k => decide (k ∈ xs.take i)) i
theorem Elem.stay {xs : List Str} {i : Nat} {h h' : Heap} (e : Elem prog w xs i S h) (k : ∀ o, h.get? S = some o → h'.get? S = some o) : Elem prog w xs i S h' :=
  let ⟨o, es, ep, tb, ho, rest⟩ := e; ⟨o, es, ep, tb, k o ho, rest⟩
theorem set_loopT (W : WalksS prog w A.in1 I fp wr G n P St) (off : S ∉ fp) {xs : List Str} (hl : xs.length = n) (nd : xs.Nodup) (room : n < scanBound) (val : ∀ i v, P i v → ∃ x t, xs[i]? = some x ∧ v = .str x t) :
    ∀ (k i : Nat) (s : Shared), i + k = n → St i s → Elem prog w xs i S s.heap → (∀ s', Moved (S :: wr) G s s' → Elem prog w xs n S s'.heap → R (.ok (.ret .none)) s') →
      codeAny (model prog w) A (.builtin "set.update.loop" ⟨[.ref S, .ref I], []⟩) R s
  | 0, i, s, hk, hst, he, hR => by
    obtain rfl : i = n := hk
    refine codeAny_builtin PyProof.Rows.F.entry_set_update_loop ?_
    rw [Around.under_plainId PyProof.Rows.F.plain_set_update_loop _]
    refine wpAny_bind (W.done s _ _ hst fun s' hm => wpAny_pure (hR s' (hm.mono fun b hb => List.mem_cons_of_mem _ hb) (he.stay fun o e => hm.heap S o (fun h => off (W.sub _ h)) e)))
  | k + 1, i, s, hk, hst, he, hR => by
    refine codeAny_builtin PyProof.Rows.F.entry_set_update_loop ?_
    rw [Around.under_plainId PyProof.Rows.F.plain_set_update_loop _]
    refine wpAny_bind (W.item i s _ _ (by omega) hst fun v s' hP hst' hm => ?_)
    obtain ⟨x, t, hx, rfl⟩ := val i v hP
    have he' : Elem prog w xs i S s'.heap := he.stay fun o e => hm.heap S o (fun h => off (W.sub _ h)) e
    show wpAny _ A.in1 (holding [Value.str x t] (setAdd S (.str x t)) >>= _) _ _ s'
    refine wpAny_bind (wpAny_holding ?_)
    unfold setAdd
    refine wpAny_holding (wpAny_bind ((PySem.strKind prog w).pyHash (k := x) (strKind_is _ _ _ _) ?_))
    refine wpAny_setAddHashed_of (knd := PySem.strKind prog w) (s := { s' with toks := s'.toks + 1 }) (strKind_is _ _ _ _) rfl he' (by omega) fun h' hsb hS2 => ?_
    have hni : x ∉ xs.take i := not_in_take nd hx
    have he2 : Elem prog w xs (i + 1) S h' := SetOf_congr hS2 (fun y => by rw [take_more hx]; by_cases e : y ∈ xs.take i <;> by_cases e2 : y = x <;> simp [e, e2]) (by rw [if_neg (by simpa using hni)])
    refine wpAny_pure ⟨plainId_quiet PyProof.Rows.F.plain_set_update_loop _, set_loopT W off hl nd room val k (i + 1) _ (by omega) (W.frame _ s' _ _ hst' (Nat.le_succ _) fun b hb o e => ?_) he2 fun s2 hm2 he3 => ?_⟩
    · rw [hsb.2 b (fun h => off (h ▸ hb))]; exact e
    · refine hR s2 (Moved.trans W.gtrans ((hm.mono fun b hb => List.mem_cons_of_mem _ hb).then_heap (Nat.le_succ _) fun b o hb e => ?_) hm2) he3
      rw [hsb.2 b (fun h => hb (by rw [h]; exact List.mem_cons_self))]; exact e
end
section
variable {prog : Program} {w : World} {A : Around} {E : Value → Shared → Prop} {s : Shared}
theorem set_of_list {l : Addr} {items : Array Value} {xs : List Str} {Q : Value → Shared → Prop} (hh : A.handled = none) (hl : s.heap.IsList l items) (hi : PyProof.Rows.StrsAre items.toList xs) (nd : xs.Nodup) (room : xs.length < scanBound)
    (h : ∀ (h' : Heap) (tk : Nat), Elem prog w xs xs.length s.heap.objs.size h' → (∀ b o, s.heap.get? b = some o → h'.get? b = some o) → Q (.ref s.heap.objs.size) { s with heap := h', toks := tk }) :
    wpAny (model prog w) A (call (.type "set") [.ref l]) Q E s := by
  obtain ⟨c, tl, hmro⟩ := PySem.F.called_set.mro
  have hmade := PySem.F.called_set.made
  have hsub := PySem.F.called_set.sub
  refine wpAny_call (codeAny_of_tree ?_)
  refine wpAny_pure ⟨Code.quiet_builtin _ (by decide +kernel), codeAny_builtin PySem.F.entry_type_call ?_⟩
  rw [Around.under_plain (weight_type_call_type "set" [.ref l] []) rfl]
  have nt := PySem.F.called_set.notType
  have cc := PySem.F.called_set.canCreate
  have ct := PySem.F.typeCall_set_1 (.ref l)
  repeat (any_goals (first | assumption | wp_step))
  refine codeAny_mono (code_set_new_1 (.ref l) (E := E) (Q₁ := fun obj s1 => ∃ led : Bool, obj = .ref s.heap.objs.size ∧ s1 = { s with heap := s.heap.push { cls := .type "set", dict := none, data := .set #[] 0 (.fresh 0 0 led) } }) fun led => ⟨led, rfl, rfl⟩) fun r s1 hr => ?_
  match r, hr with
  | .ok (.ret obj), hr =>
    obtain ⟨led, rfl, rfl⟩ := hr
    have hS : (s.heap.push (setO led)).get? s.heap.objs.size = some (setO led) := Heap.get?_push_size _ rfl
    have hTy : Shared.TypeIs { s with heap := s.heap.push (setO led) } (.ref s.heap.objs.size) "set" := ⟨_, hS, rfl⟩
    have li := PySem.F.called_set.init.lookup
    have bi := PySem.F.called_set.init.bind (.ref s.heap.objs.size)
    repeat (any_goals (first | assumption | wp_step))
    refine codeAny_mono (codeAny_call_builtin (R := wants (fun r s2 => r = .none ∧ ∃ h' tk, s2 = { s with heap := h', toks := tk } ∧ Elem prog w xs xs.length s.heap.objs.size h' ∧ (∀ b o, s.heap.get? b = some o → h'.get? b = some o)) E)
      PySem.F.called_set.init.plain PySem.F.entry_set_init (check_set_init_1 hTy ?_)) fun r2 s2 hr2 => ?_
    · obtain ⟨⟨oc, od, odt, osl⟩, hol, hcl, nl, hdl⟩ := hl
      dsimp only at hcl hdl
      subst hcl hdl
      have hol' : (s.heap.push (setO led)).get? l = some { cls := .type "list", dict := od, data := .seq items nl, slots := osl } := Heap.get?_push_of_some _ hol
      have ss := PySem.F.sub_list_set
      have sf := PySem.F.sub_list_frozenset
      have ne : (Value.type "list" == Value.type "dict") = false := by decide
      have hl1 : (s.heap.push (setO led)).IsList l items := ⟨_, hol', rfl, nl, rfl⟩
      unfold Builtin.«set.__init__» noKeywords Builtin.Frozenset.updateFrom
      generalize hPI : pyIter = PI
      wp_walk
      subst hPI
      refine wpAny_pyIter_list hl1 ?_
      refine wpAny_bind (wpAny_runValue ?_)
      have hlS : l < s.heap.objs.size := Heap.lt_size hol
      have hz : (s.heap.push (setO led)).objs.size = s.heap.objs.size + 1 := Heap.size_push ..
      have neI : l ≠ (s.heap.push (setO led)).objs.size := by rw [hz]; exact Nat.ne_of_lt (Nat.lt_succ_of_lt hlS)
      have off : s.heap.objs.size ∉ [(s.heap.push (setO led)).objs.size, l] := by
        rw [hz]; simp only [List.mem_cons, List.not_mem_nil, or_false, not_or]
        exact ⟨Nat.ne_of_lt (Nat.lt_succ_self _), Nat.ne_of_gt hlS⟩
      have hsz : xs.length = items.size := by rw [← StrsAre.len_eq hi, Array.length_toList]
      refine set_loopT (xs := xs) ((Walks.list (A := A.in1.in1.in1) (by simp [hh]) _ l neI items).toS) off hsz nd (by rw [← hsz]; exact room) (fun i v hv => ?_) items.size 0 _ (Nat.zero_add _) ⟨⟨_, Heap.get?_push_size _ rfl, rfl, rfl⟩, hl1.push _⟩ ?_ fun s' hm hS' => ?_
      · obtain ⟨t, e⟩ := SS.strs_at hi i v (by rw [Array.getElem?_toList]; exact hv)
        have hlt : i < xs.length := by rw [hsz]; exact (Array.getElem?_eq_some_iff.mp hv).1
        exact ⟨xs[i], t, List.getElem?_eq_getElem hlt, by rw [e, List.getD_eq_getElem?_getD, List.getElem?_eq_getElem hlt]; rfl⟩
      · exact PyProof.Rows.SetOf_congr ((PyProof.Rows.setObjOf_fresh (knd := PySem.strKind prog w) led).setOf (Heap.get?_push_of_some _ hS) (by unfold scanBound; omega)) (fun _ => by simp) rfl
      · obtain ⟨h', g', d', tk', os'⟩ := s'
        obtain rfl : g' = s.gens := hm.gens
        obtain rfl : d' = s.drawn := hm.drawn
        obtain rfl : os' = s.os := hm.os
        refine wpAny_pure (wpAny_pure ⟨rfl, h', tk', rfl, by rw [hsz]; exact hS', fun b o e => ?_⟩)
        have hb : b < s.heap.objs.size := Heap.lt_size e
        refine hm.heap b o (fun hmem => ?_) (Heap.get?_push_of_some _ (Heap.get?_push_of_some _ e))
        have e' : b = s.heap.objs.size ∨ b = (s.heap.push (setO led)).objs.size := by simpa using hmem
        rcases e' with e' | e'
        · exact Nat.ne_of_lt hb e'
        · rw [hz] at e'; exact Nat.ne_of_lt (Nat.lt_succ_of_lt hb) e'
    · match r2, hr2 with
      | .ok (.ret r), hr2 =>
        obtain ⟨rfl, h', tk, rfl, hS', hk'⟩ := hr2
        repeat (any_goals (first | assumption | wp_step))
        exact h _ _ hS' hk'
      | .error e, hr2 => exact hr2
  | .error e, hr => exact hr
end
section
variable {prog : Program} {w : World} {A : Around} {E : Value → Shared → Prop} {s : Shared}
theorem set_of_tuple {l : Addr} {items : Array Value} {xs : List Str} {Q : Value → Shared → Prop} (hh : A.handled = none) (hl : s.heap.IsTuple l items) (hi : PyProof.Rows.StrsAre items.toList xs) (nd : xs.Nodup) (room : xs.length < scanBound)
    (h : ∀ (h' : Heap) (tk : Nat), Elem prog w xs xs.length s.heap.objs.size h' → (∀ b o, s.heap.get? b = some o → h'.get? b = some o) → Q (.ref s.heap.objs.size) { s with heap := h', toks := tk }) :
    wpAny (model prog w) A (call (.type "set") [.ref l]) Q E s := by
  obtain ⟨c, tl, hmro⟩ := PySem.F.called_set.mro
  have hmade := PySem.F.called_set.made
  have hsub := PySem.F.called_set.sub
  refine wpAny_call (codeAny_of_tree ?_)
  refine wpAny_pure ⟨Code.quiet_builtin _ (by decide +kernel), codeAny_builtin PySem.F.entry_type_call ?_⟩
  rw [Around.under_plain (weight_type_call_type "set" [.ref l] []) rfl]
  have nt := PySem.F.called_set.notType
  have cc := PySem.F.called_set.canCreate
  have ct := PySem.F.typeCall_set_1 (.ref l)
  repeat (any_goals (first | assumption | wp_step))
  refine codeAny_mono (code_set_new_1 (.ref l) (E := E) (Q₁ := fun obj s1 => ∃ led : Bool, obj = .ref s.heap.objs.size ∧ s1 = { s with heap := s.heap.push { cls := .type "set", dict := none, data := .set #[] 0 (.fresh 0 0 led) } }) fun led => ⟨led, rfl, rfl⟩) fun r s1 hr => ?_
  match r, hr with
  | .ok (.ret obj), hr =>
    obtain ⟨led, rfl, rfl⟩ := hr
    have hS : (s.heap.push (setO led)).get? s.heap.objs.size = some (setO led) := Heap.get?_push_size _ rfl
    have hTy : Shared.TypeIs { s with heap := s.heap.push (setO led) } (.ref s.heap.objs.size) "set" := ⟨_, hS, rfl⟩
    have li := PySem.F.called_set.init.lookup
    have bi := PySem.F.called_set.init.bind (.ref s.heap.objs.size)
    repeat (any_goals (first | assumption | wp_step))
    refine codeAny_mono (codeAny_call_builtin (R := wants (fun r s2 => r = .none ∧ ∃ h' tk, s2 = { s with heap := h', toks := tk } ∧ Elem prog w xs xs.length s.heap.objs.size h' ∧ (∀ b o, s.heap.get? b = some o → h'.get? b = some o)) E)
      PySem.F.called_set.init.plain PySem.F.entry_set_init (check_set_init_1 hTy ?_)) fun r2 s2 hr2 => ?_
    · obtain ⟨⟨oc, od, odt, osl⟩, hol, hcl, nl, hdl⟩ := hl
      dsimp only at hcl hdl
      subst hcl hdl
      have hol' : (s.heap.push (setO led)).get? l = some { cls := .type "tuple", dict := od, data := .seq items nl, slots := osl } := Heap.get?_push_of_some _ hol
      have ss := PySem.F.sub_tuple_set
      have sf := PySem.F.sub_tuple_frozenset
      have ne : (Value.type "tuple" == Value.type "dict") = false := by decide
      have hl1 : (s.heap.push (setO led)).IsTuple l items := ⟨_, hol', rfl, nl, rfl⟩
      unfold Builtin.«set.__init__» noKeywords Builtin.Frozenset.updateFrom
      generalize hPI : pyIter = PI
      wp_walk
      subst hPI
      refine wpAny_pyIter_tuple hl1 ?_
      refine wpAny_bind (wpAny_runValue ?_)
      have hlS : l < s.heap.objs.size := Heap.lt_size hol
      have hz : (s.heap.push (setO led)).objs.size = s.heap.objs.size + 1 := Heap.size_push ..
      have neI : l ≠ (s.heap.push (setO led)).objs.size := by rw [hz]; exact Nat.ne_of_lt (Nat.lt_succ_of_lt hlS)
      have off : s.heap.objs.size ∉ [(s.heap.push (setO led)).objs.size, l] := by
        rw [hz]; simp only [List.mem_cons, List.not_mem_nil, or_false, not_or]
        exact ⟨Nat.ne_of_lt (Nat.lt_succ_self _), Nat.ne_of_gt hlS⟩
      have hsz : xs.length = items.size := by rw [← StrsAre.len_eq hi, Array.length_toList]
      refine set_loopT (xs := xs) ((Walks.tuple (A := A.in1.in1.in1) (by simp [hh]) _ l neI items).toS) off hsz nd (by rw [← hsz]; exact room) (fun i v hv => ?_) items.size 0 _ (Nat.zero_add _) ⟨⟨_, Heap.get?_push_size _ rfl, rfl, rfl⟩, hl1.push _⟩ ?_ fun s' hm hS' => ?_
      · obtain ⟨t, e⟩ := SS.strs_at hi i v (by rw [Array.getElem?_toList]; exact hv)
        have hlt : i < xs.length := by rw [hsz]; exact (Array.getElem?_eq_some_iff.mp hv).1
        exact ⟨xs[i], t, List.getElem?_eq_getElem hlt, by rw [e, List.getD_eq_getElem?_getD, List.getElem?_eq_getElem hlt]; rfl⟩
      · exact PyProof.Rows.SetOf_congr ((PyProof.Rows.setObjOf_fresh (knd := PySem.strKind prog w) led).setOf (Heap.get?_push_of_some _ hS) (by unfold scanBound; omega)) (fun _ => by simp) rfl
      · obtain ⟨h', g', d', tk', os'⟩ := s'
        obtain rfl : g' = s.gens := hm.gens
        obtain rfl : d' = s.drawn := hm.drawn
        obtain rfl : os' = s.os := hm.os
        refine wpAny_pure (wpAny_pure ⟨rfl, h', tk', rfl, by rw [hsz]; exact hS', fun b o e => ?_⟩)
        have hb : b < s.heap.objs.size := Heap.lt_size e
        refine hm.heap b o (fun hmem => ?_) (Heap.get?_push_of_some _ (Heap.get?_push_of_some _ e))
        have e' : b = s.heap.objs.size ∨ b = (s.heap.push (setO led)).objs.size := by simpa using hmem
        rcases e' with e' | e'
        · exact Nat.ne_of_lt hb e'
        · rw [hz] at e'; exact Nat.ne_of_lt (Nat.lt_succ_of_lt hb) e'
    · match r2, hr2 with
      | .ok (.ret r), hr2 =>
        obtain ⟨rfl, h', tk, rfl, hS', hk'⟩ := hr2
        repeat (any_goals (first | assumption | wp_step))
        exact h _ _ hS' hk'
      | .error e, hr2 => exact hr2
  | .error e, hr => exact hr
end
section
variable {X : Cx}
def tLenSetT (K : PySem.W.Frag) (ta : TE) : TE := fun σ H Q => ta σ H fun x H1 => ∃ (l : Addr) (xs : List (List Nat)), x = V.ref l ∧ (SqL K H1 l (txs xs) ∨ SqT K H1 l (txs xs)) ∧ xs.length < 60 ∧ xs.Nodup ∧ Q (.int xs.length) H1
theorem nodup_S {xs : List (List Nat)} (h : xs.Nodup) : (xs.map S).Nodup := List.pairwise_map.mpr (h.imp fun n e => n (by have : (S _).cps.toList = (S _).cps.toList := congrArg (fun z : Str => z.cps.toList) e; simpa [S] using this))
theorem pe_lenSetT {a : Expr} {ta : TE} {p p2 q pos : Pos} (hc : X.calm = true) (hg : Gl X "len") (hm : X.mg "len" = none) (hg2 : Gl X "set") (hm2 : X.mg "set" = none) (ha : PE X a ta)
    (na : starEach [a] X.env = (false, eval a X.env) :: starEach [] X.env := by rfl) : PE X (.Call (.Name "len" p) [.Call (.Name "set" p2) [a] [] q] [] pos) (tLenSetT X.K ta) := by
  refine ⟨fun pins s σ H Q I h => ?_⟩
  refine Call_ (ld_blt I hg hm PySem.boot_len (PyProof.Rows.callWith_builtin1 (PyProof.Rows.args_cons ?_ rfl) rfl rfl))
  refine Call_ (ld_blt I hg2 hm2 PyProof.Rows.boot_set (PyProof.Rows.callWith_type1 (PyProof.Rows.args_cons (thn (ha.run pins s σ H _ I h) fun v s1 ⟨x, H1, I1, r1, q1⟩ => PyProof.Rows.args_nil ?_) na) na rfl))
  obtain ⟨l, xs, rfl, hq, h1, hnd, q1⟩ := q1
  cases r1
  have e0 : txs xs = (xs.map S).map V.str := by unfold txs; rw [List.map_map]; rfl
  have room : (xs.map S).length < scanBound := by rw [List.length_map]; unfold scanBound; omega
  have fin : ∀ (h' : Heap) (tk : Nat), Elem X.prog X.w (xs.map S) (xs.map S).length s1.heap.objs.size h' → (∀ b o, s1.heap.get? b = some o → h'.get? b = some o) →
      wpAny (model X.prog X.w) X.A (spliced (backTo pos (starEach [] X.env))) (fun vs s₂ => wpAny (model X.prog X.w) X.A (call (.builtin "len") (Value.ref s1.heap.objs.size :: vs)) (EP X pins σ Q) X.xe s₂) X.xe { s1 with heap := h', toks := tk } := fun h' tk hS hk => by
    refine PyProof.Rows.args_nil ?_
    obtain ⟨o, es, ep, t, ho, hex, hd, _, _, _, hf, hn⟩ := hS
    have I2 : Inv X pins σ H1 { s1 with heap := h', toks := tk } := I1.kept hk
    rw [List.length_map] at hn
    exact call_len_set ho hex hd hf (by rw [hn]; omega) ⟨.int xs.length, H1, I2.tok _, ⟨_, by rw [hn]⟩, q1⟩
  rcases hq with hq | hq
  · rw [e0] at hq
    obtain ⟨its, r, pl, hz⟩ := I1.list hq
    exact set_of_list (I1.ok.hd hc) pl.isList (by simpa using strsAre_of r) (nodup_S hnd) room fun h' tk hS hk => fin h' tk hS hk
  · rw [e0] at hq
    obtain ⟨its, r, pl, hz⟩ := I1.tuple hq
    exact set_of_tuple (I1.ok.hd hc) pl (by simpa using strsAre_of r) (nodup_S hnd) room fun h' tk hS hk => fin h' tk hS hk
end
end LX
set_option maxHeartbeats 2000000
namespace LX
open PySem PySem.Spec PyProof.Rows L2 C8 SX
def SqB (K : PySem.W.Frag) (b : Bool) (H : Hp) (a : Addr) (xs : List V) : Prop := if b = true then SqL K H a xs else SqT K H a xs
def ItA (K : PySem.W.Frag) (b : Bool) (a : Addr) : It := if b = true then Itl K a else Itt K a
theorem SqB.or {K : PySem.W.Frag} {b : Bool} {H : Hp} {a : Addr} {xs : List V} (h : SqB K b H a xs) : SqL K H a xs ∨ SqT K H a xs := by
  cases b
  · exact .inr h
  · exact .inl h
theorem SqB.same {K : PySem.W.Frag} {b : Bool} {H H' : Hp} {a : Addr} {xs : List V} (h : SqB K b H a xs) (s : Same H H') : SqB K b H' a xs := by
  cases b
  · exact sm_seqT s h
  · exact s.seq h
theorem SqB.lst {K : PySem.W.Frag} {H : Hp} {a : Addr} {xs : List V} (h : H a = some (.lst xs)) : SqB K true H a xs := SqL.of h
theorem SqB.tup {K : PySem.W.Frag} {H : Hp} {a : Addr} {xs : List V} (h : H a = some (.tup xs)) : SqB K false H a xs := SqT.of h
def seqB (b : Bool) (xs : List V) : HO := if b = true then .lst xs else .tup xs
theorem SqB.of {K : PySem.W.Frag} {b : Bool} {H : Hp} {a : Addr} {xs : List V} (h : H a = some (seqB b xs)) : SqB K b H a xs := by
  cases b
  · exact SqB.tup h
  · exact SqB.lst h
theorem walk_seq {K : PySem.W.Frag} {b : Bool} {a : Addr} {xs : List V} : Walk (ItA K b a) xs.length (fun H => SqB K b H a xs) (YAt xs) := by
  cases b
  · exact walk_tup
  · exact walk_list
def iSeq (K : PySem.W.Frag) (tl : TE) : TI := fun σ H R => tl σ H fun x H1 => ∃ a b xs, x = .ref a ∧ SqB K b H1 a xs ∧ R (ItA K b a) H1
theorem pi_seq {X : Cx} {tg l : Expr} {tl : TE} (hl : PE X l tl) : PI X tg l (iSeq X.K tl) := by
  refine ⟨fun pins s σ H R I h => thn (hl.run pins s σ H _ I h) fun v s1 ⟨x, H1, I1, r1, a, b, xs, e, hq, q⟩ => ?_⟩
  subst e
  cases r1
  have new : ∀ c ∈ [s1.heap.objs.size], FpOk X pins H1 c := fun c hc => by
    rw [List.mem_singleton.mp hc]
    exact I1.fpOk (Nat.le_refl _) (I1.hok.fresh (Nat.le_refl _))
  cases b with
  | true =>
    obtain ⟨its, rv, p, hz⟩ := I1.list hq
    exact wpAny_pyIter_list p.isList ⟨s1.heap.objs.size, _, _, _, H1, rfl, I1.kept (t' := s1.toks) fun b o e => Heap.get?_push_of_some _ e, turn_list a _, ⟨_, Heap.get?_push_size _ rfl, rfl, rfl⟩, new, q⟩
  | false =>
    obtain ⟨its, rv, p, hz⟩ := I1.tuple hq
    exact wpAny_pyIter_tuple (show s1.heap.IsTuple a its.toArray from p) ⟨s1.heap.objs.size, _, _, _, H1, rfl, I1.kept (t' := s1.toks) fun b o e => Heap.get?_push_of_some _ e, turn_tuple a _, ⟨_, Heap.get?_push_size _ rfl, rfl, rfl⟩, new, q⟩
theorem pi_listK {X : Cx} {tg l : Expr} {tl : TE} (K : PySem.W.Frag) (hl : PE X l tl) (h : X.K = K := by rfl) : PI X tg l (iList K tl) := by subst h; exact pi_list hl
theorem pi_tupK {X : Cx} {tg l : Expr} {tl : TE} (K : PySem.W.Frag) (hl : PE X l tl) (h : X.K = K := by rfl) : PI X tg l (iTup K tl) := by subst h; exact pi_tup hl
theorem pi_seqK {X : Cx} {tg l : Expr} {tl : TE} (K : PySem.W.Frag) (hl : PE X l tl) (h : X.K = K := by rfl) : PI X tg l (iSeq K tl) := by subst h; exact pi_seq hl
def inS : Expr → Scope
  | .ListComp (.ListComp _ _ s _) _ _ _ => s
  | _ => { kind := .function, names := [], isGenerator := false, isCoroutine := false }
def outS : Expr → Scope
  | .ListComp _ _ s _ => s
  | _ => { kind := .function, names := [], isGenerator := false, isCoroutine := false }
def ofRet : Stmt → Expr
  | .Return (some e) _ => e
  | .Assign _ e _ => e
  | _ => .Constant .none 0 ⟨0, 0, 0, 0⟩
theorem tuple_of {K : PySem.W.Frag} {b : Bool} {H : Hp} {a : Addr} {xs : List V} {Q : VK} (h : SqB K b H a xs) (q1 : ∀ l, H l = none → Q (.ref l) (upd H l (.tup xs))) (q2 : b = false → Q (.ref a) H) :
    (SqL K H a xs ∧ ∀ l, H l = none → Q (.ref l) (upd H l (.tup xs))) ∨ (SqT K H a xs ∧ Q (.ref a) H) := by
  cases b
  · exact .inr ⟨h, q2 rfl⟩
  · exact .inl ⟨h, q1⟩
theorem tupA {K : PySem.W.Frag} {b : Bool} {H : Hp} {a : Addr} {xs : List V} {Q : VK} (h : H a = some (seqB b xs)) (k : ∀ l H', Same H H' → H' l = some (.tup xs) → (b = false → l = a) → (b = true → H l = none) → Q (.ref l) H') :
    (SqL K H a xs ∧ ∀ l, H l = none → Q (.ref l) (upd H l (.tup xs))) ∨ (SqT K H a xs ∧ Q (.ref a) H) := by
  cases b
  · exact .inr ⟨SqT.of h, k a H (Same.refl H) h (fun _ => rfl) (fun h => nomatch h)⟩
  · exact .inl ⟨SqL.of h, fun l hl => k l _ (sm_new hl) upd_same (fun h => nomatch h) (fun _ => hl)⟩
theorem tCB_tup {K : PySem.W.Frag} {b : Bool} {i : Nat} {σ : L2.St} {H : Hp} {a : Addr} {xs : List V} {Q : VK} (hv : σ[i]? = some (some (.ref a))) (h : H a = some (seqB b xs)) (k : ∀ l H', Same H H' → H' l = some (.tup xs) → (b = false → l = a) → (b = true → H l = none) → Q (.ref l) H') :
    tCB (fun xs H Q => ∃ p ys, xs = [.ref p] ∧ ((SqL K H p ys ∧ ∀ l, H l = none → Q (.ref l) (upd H l (.tup ys))) ∨ (SqT K H p ys ∧ Q (.ref p) H))) (tCons (tVar i) tNil) σ H Q :=
  ⟨_, hv, a, xs, rfl, tupA (Q := Q) h k⟩
theorem eqV_S {x y : List Nat} : eqV (.str (S x)) (.str (S y)) = decide (x = y) := by
  show (S x == S y) = _
  by_cases e : x = y
  · subst e; simp
  · have : S x ≠ S y := fun h => e (by have : (S x).cps.toList = (S y).cps.toList := congrArg (fun z : Str => z.cps.toList) h; simpa [S] using this)
    rw [decide_eq_false e]; simpa using this
theorem flat_txs (xs : List (List Nat)) : (txs xs).all flatV = true := by
  unfold txs; rw [List.all_map]; exact List.all_eq_true.mpr fun _ _ => rfl
theorem inV_txs {x : List Nat} {xs : List (List Nat)} : inV (.str (S x)) (txs xs) = decide (x ∈ xs) := by
  unfold inV txs
  induction xs with
  | nil => rfl
  | cons y ys ih =>
    rw [List.map_cons, List.any_cons, ih]
    show (eqV (.str (S y)) (.str (S x)) || _) = _
    rw [eqV_S]
    by_cases e : y = x <;> by_cases e2 : x ∈ ys <;> simp [e, e2]
    · intro h; exact absurd h.symm e
theorem dictZipK {X : Cx} (K : PySem.W.Frag) {e e2 : Expr} {ta : TA} {p p2 pos pos2 : Pos} (hc : X.calm = true) (hgd : Gl X "dict") (hmd : X.mg "dict" = none) (hg : Gl X "zip") (hm : X.mg "zip" = none) (ha : PA X [e, e2] ta) (h : X.K = K := by rfl)
    (hs : starEach [e, e2] X.env = (false, eval e X.env) :: starEach [e2] X.env := by rfl) (hpl : (backTo pos2 (starEach [e2] X.env)).any (·.1) = false := by rfl)
    (hs' : starEach [.Call (.Name "zip" p2) [e, e2] [] pos2] X.env = (false, eval (.Call (.Name "zip" p2) [e, e2] [] pos2) X.env) :: starEach [] X.env := by rfl) (hpl' : (backTo pos (starEach [] X.env)).any (·.1) = false := by rfl) :
    PE X (.Call (.Name "dict" p) [.Call (.Name "zip" p2) [e, e2] [] pos2] [] pos) (tDictZip K ta) := by subst h; exact pe_dictZip hc hgd hmd hg hm ha hs hpl hs' hpl'
end LX
set_option maxHeartbeats 2000000
namespace LX
open PySem PySem.Spec PyProof.Rows L2 C8 SX NdefX
noncomputable def upB (h base : Heap) (cs : List Addr) : Heap := hidT h fun b => if (base.get? b).isSome = true ∨ b ∈ cs then none else some (.lst [])
theorem upB_get {h base : Heap} {cs : List Addr} {b : Addr} {o : Obj} (e : h.get? b = some o) (n : (base.get? b).isSome = true ∨ b ∈ cs) : (upB h base cs).get? b = some o := hidT_get e (if_pos n)
theorem of_upB {h base : Heap} {cs : List Addr} {b : Addr} {o : Obj} (e : (upB h base cs).get? b = some o) : h.get? b = some o ∧ ((base.get? b).isSome = true ∨ b ∈ cs) := by
  obtain ⟨e1, e2⟩ := of_hidT e
  refine ⟨e1, ?_⟩
  by_cases n : (base.get? b).isSome = true ∨ b ∈ cs
  · exact n
  · have e2 : (if (base.get? b).isSome = true ∨ b ∈ cs then none else some (HO.lst [])) = none := e2
    rw [if_neg n] at e2; cases e2
structure BCells (cl : List (Str × Addr)) (fr : List Str) (ws : List (Option V)) (base : Heap) : Prop where
  len : ws.length = fr.length
  all : ∀ y c, cl.lookup y = some c → ∃ v, base.IsCell c v
  inj : ∀ x y c, cl.lookup x = some c → cl.lookup y = some c → x = y
  has : ∀ (i : Nat) (y : Str), fr[i]? = some y → ∃ c, cl.lookup y = some c ∧ ∀ v, ws[i]? = some (some v) → ∃ u, RelV v u ∧ base.IsCell c (some u)
theorem BCells.at_ {cl : List (Str × Addr)} {fr : List Str} {ws : List (Option V)} {base : Heap} (b : BCells cl fr ws base) {h : Heap} {H : Hp} (bs : ∀ b o, base.get? b = some o → h.get? b = some o ∧ H b = none) : CellsAt cl fr ws h H :=
  ⟨b.len, fun y c e => let ⟨v, o, e1, e2⟩ := b.all y c e; ⟨(bs _ _ e1).2, v, o, (bs _ _ e1).1, e2⟩, b.inj, fun i y e => let ⟨c, e1, f⟩ := b.has i y e; ⟨c, e1, fun v hv => let ⟨u, r, o, e2, e3⟩ := f v hv; ⟨u, r, o, (bs _ _ e2).1, e3⟩⟩⟩
section
variable {X : Cx} {pins : List (Addr × Obj)} {σ : L2.St} {H : Hp} {s : Shared}
theorem funs_up {h base : Heap} {cs : List Addr} : ∀ {l : List Env}, h.FunFrames base l → (∀ b ∈ frs l, b ∉ cs) → h.FunFrames (upB h base cs) l
  | [], _, _ => trivial
  | env :: rest, ⟨a, ⟨L, o, e1, e2, e3, e4⟩, r⟩, n => by
    have hm : L ∈ frs (env :: rest) := by unfold frs; rw [List.filterMap_cons, e1]; exact List.mem_cons_self
    refine ⟨a, ⟨L, o, e1, ?_, e3, e4⟩, funs_up r fun b hb => n b ?_⟩
    · cases q : (upB h base cs).get? L with
      | none => rfl
      | some o' =>
        rcases (of_upB q).2 with z | z
        · rw [e2] at z; cases z
        · exact absurd z (n L hm)
    · unfold frs at hb ⊢; rw [List.filterMap_cons, e1]; exact List.mem_cons_of_mem _ hb
theorem env_up (I : Inv X pins σ H s) {cs : List Addr} (hc : ∀ c ∈ cs, ∃ x, X.env.cells.lookup x = some c ∧ X.fn x = true) : Env0 X.prog X.w X.K X.mg (upB s.heap X.base cs) X.A X.stack s H := by
  have e0 := I.env0
  have k : ∀ b o, X.base.get? b = some o → (upB s.heap X.base cs).get? b = some o := fun b o e => upB_get (e0.bs b o e).1 (.inl (by rw [e]; rfl))
  obtain ⟨mb, b1, b2⟩ := e0.mod.blt
  refine ⟨e0.frames, ⟨fun b o e => k b o (e0.mod.kin b o e), e0.mod.glob.keeps k, ⟨mb, b1.keeps k, b2⟩, e0.mod.nolimit.keeps k⟩, fun b o e => ?_, Nat.le_of_eq (hidT_size _ _), funs_up e0.funs fun L hL hm => ?_, e0.frf, e0.hok, e0.bare⟩
  · obtain ⟨e1, n⟩ := of_upB e
    refine ⟨e1, ?_⟩
    rcases n with n | n
    · obtain ⟨o', q⟩ := Option.isSome_iff_exists.mp n
      exact (e0.bs b o' q).2
    · obtain ⟨x, hx, _⟩ := hc b n
      exact I.freeC x b hx
  · obtain ⟨x, hx, hf⟩ := hc L hm
    have above := I.ok.cab x L hf hx
    have out : ∀ l : List Env, X.s_0.heap.FunFrames X.base l → L ∈ frs l → False := fun l => by
      induction l with
      | nil => intro _ h; simp [frs] at h
      | cons env rest ih =>
        rintro ⟨_, ⟨M, o, e1, _, e3, _⟩, r⟩ h
        unfold frs at h; rw [List.filterMap_cons, e1] at h
        rcases List.mem_cons.mp h with z | z
        · have := Heap.lt_size e3
          rw [← z] at this
          exact Nat.lt_irrefl _ (Nat.lt_of_lt_of_le this above)
        · exact ih r z
    rcases I.ok.stk with e | ⟨e, ef⟩
    · rw [e] at hL; exact out _ I.ok.funs hL
    · rw [e] at hL
      unfold frs at hL; rw [List.filterMap_cons, ef] at hL
      rcases List.mem_cons.mp hL with z | z
      · obtain ⟨m, ⟨o, es, ep, e1, e2, _⟩, _⟩ := I.loc
        obtain ⟨v, o', q1, q2⟩ := I.cell x L hx
        rw [z, e1] at q1
        cases q1
        rw [e2] at q2; cases q2
      · exact out _ I.ok.funs z
theorem cells_up (I : Inv X pins σ H s) {cl : List (Str × Addr)} {fr : List Str} {js : List Nat} (c : Caps X cl fr js) : BCells cl fr (js.map (slotAt σ)) (upB s.heap X.base (cl.map (·.2))) := by
  have C := cells_of I c
  have mem : ∀ {y : Str} {a : Addr}, cl.lookup y = some a → a ∈ cl.map (·.2) := fun {y a} h => by
    obtain ⟨l1, l2, e, _⟩ := List.lookup_eq_some_iff.mp h
    rw [e]; simp
  refine ⟨C.len, fun y a e => ?_, C.inj, fun i y e => ?_⟩
  · obtain ⟨_, v, o, e1, e2⟩ := C.all y a e
    exact ⟨v, o, upB_get e1 (.inr (mem e)), e2⟩
  · obtain ⟨a, e1, f⟩ := C.has i y e
    exact ⟨a, e1, fun v hv => let ⟨u, r, o, e2, e3⟩ := f v hv; ⟨u, r, o, upB_get e2 (.inr (mem e1)), e3⟩⟩
def tUp (S : List (Option V) → Sp → Prop) (js : List Nat) (t : TA) : TE := fun σ H Q => t σ H fun vs H1 => ∃ sp, S (js.map (slotAt σ)) sp ∧ sp vs H1 Q C8.E0
theorem pe_cUp {k j : Nat} {g : Addr} {x : Str} {p pos : Pos} {e : Expr} {es : List Expr} {t : TA} {cl : List (Str × Addr)} {fr : List Str} {js : List Nat} {S : List (Option V) → Sp → Prop} (named : X.mg x = some (.ref g)) (kept : PySem.W.keepIn X.K (.ref g) = true)
    (cp : X.Ok → Caps X cl fr js) (hfn : ∀ y c, cl.lookup y = some c → X.fn y = true)
    (hS : ∀ ws sp (base' : Heap), S ws sp → X.K.In base' → base'.Ns mainGlobals X.mg → BCells cl fr ws base' → Cal X.prog X.w X.K X.mg base' k x sp []) (room : Room j X.A) (hk : k ≤ j) (hg : Gl X x) (ha : PA X (e :: es) t) (nd : cl.map (·.1) |>.Nodup) (hdb : (x == ("__debug__" : Str)) = false := by decide)
    (he : starEach (e :: es) X.env = (false, eval e X.env) :: starEach es X.env := by rfl) (hpl : (backTo pos (starEach es X.env)).any (·.1) = false := by rfl) : PE X (.Call (.Name x p) (e :: es) [] pos) (tUp S js t) := by
  constructor
  intro pins s σ H Q I want
  refine wpAny_Call_Name_kw (ld_glob I hg named ?_ hdb)
  refine PySem.W.callWith_K (h₀ := X.base) I.ok.mod.kin kept (thn (ha.run pos pins s σ H _ I want) ?_) he hpl
  rintro us s1 ⟨vs, H1, I1, rel, sp, s0, q⟩
  refine ⟨I1.kIn, ?_⟩
  have C := cp I1.ok
  have hcs : ∀ c ∈ cl.map (·.2), ∃ x, X.env.cells.lookup x = some c ∧ X.fn x = true := fun c hc => by
    obtain ⟨⟨y, c'⟩, hm, rfl⟩ := List.mem_map.mp hc
    have hl : cl.lookup y = some c' := by
      clear C hfn hS cp
      induction cl with
      | nil => cases hm
      | cons a r ih =>
        obtain ⟨z, d⟩ := a
        rw [List.map_cons, List.nodup_cons] at nd
        rcases List.mem_cons.mp hm with h | h
        · cases h; exact List.lookup_cons_self ..
        · have hne : (y == z) = false := by
            refine beq_eq_false_iff_ne.mpr fun e => nd.1 ?_
            rw [← e]; exact List.mem_map_of_mem (f := (·.1)) h
          rw [List.lookup_cons, hne]
          exact ih nd.2 h (List.mem_map_of_mem (f := (·.2)) h)
    exact ⟨y, C.sub y c' hl, hfn y c' hl⟩
  have E1 := env_up I1 hcs
  obtain ⟨f, fd, ps, ds, F, named', _, bd, dv⟩ := (hS _ sp _ s0 E1.mod.kin E1.mod.glob (cells_up I1 C)).ex
  rw [named] at named'
  cases named'
  cases dv
  have count : (us ++ []).length = ps.length := by rw [List.append_nil, ← rel.length]; exact F.len _ _ _ _ q
  have bs := bd s1 us I1.kIn count
  rw [List.append_nil] at bs
  refine wpAny_call (codeAny_mono (F.run X.A X.stack s1 H1 ⟨us, []⟩ us vs Q C8.E0 (room.mono hk) E1 bs rel q) fun r t' got => ?_)
  match r, got with
  | .ok (.ret u), got => exact I1.after got
end
def CV (P : Program) (w : World) (K : PySem.W.Frag) (mg : Str → Option Value) (base : Heap) (k : Nat) (g : Addr) (tr : Hp → Prop) (sp : Sp) : Prop :=
  Held P w K mg base k g sp ∨
    ∃ (F : NF) (ps fr : List Str) (ws : List (Option V)) (nsp : List (Option V) → Sp), NOk P w K mg base C8.CX0 k g F ps fr nsp ∧ (∀ vs H Q, tr H → sp vs H Q C8.E0 → nsp ws vs H Q C8.E0) ∧ BCells F.cl fr ws base ∧ ∀ H, tr H → H g = some (FnO g F) ∧ H F.c = some (LamX.CodeO F.c F.qual)
def tCallV (i : Nat) (g : Addr) (tr : Hp → Prop) (sp : Sp) (t : TA) : TE := fun σ H Q => σ[i]? = some (some (.ref g)) ∧ tr H ∧ t σ H fun vs H1 => tr H1 ∧ sp vs H1 Q C8.E0
theorem pe_callV {X : Cx} {k j i : Nat} {g : Addr} {tr : Hp → Prop} {sp : Sp} {x : Str} {p pos : Pos} {e : Expr} {es : List Expr} {t : TA} (c : CV X.prog X.w X.K X.mg X.base k g tr sp) (room : Room j X.A) (hk : k ≤ j) (hN : X.N[i]? = some x) (hv : Vis X.env.scope x) (ha : PA X (e :: es) t)
    (hd : (x == ("__debug__" : Str)) = false := by decide) (hcd : (x == ("__classdict__" : Str)) = false := by decide)
    (he : starEach (e :: es) X.env = (false, eval e X.env) :: starEach es X.env := by rfl) (hpl : (backTo pos (starEach es X.env)).any (·.1) = false := by rfl) : PE X (.Call (.Name x p) (e :: es) [] pos) (tCallV i g tr sp t) := by
  constructor
  rintro pins s σ H Q I ⟨hs, ht, want⟩
  rcases c with ⟨fd, ps, F, kept, bd⟩ | ⟨F, ps, fr, ws, nsp, N, hsp, B, htr⟩
  · have F' : FnOk X.prog X.w X.K X.mg X.base (fun _ _ _ _ _ _ => False) k g fd ps (fun vs H Q E => tr H ∧ sp vs H Q E) := F.imp fun _ _ _ _ q => q.2
    refine (pe_callL (i := i) (dvs := []) (E := fun _ _ _ => False) F' (room.mono hk) hN hv kept bd .nil (fun _ _ _ _ _ _ _ z => z.elim) ha hd hcd he hpl).run pins s σ H Q I ⟨hs, ?_⟩
    have e0 : (fun (vs : List V) (H1 : Hp) => tr H1 ∧ sp (vs ++ []) H1 Q fun _ _ _ => False) = fun vs H1 => tr H1 ∧ sp vs H1 Q C8.E0 := by funext vs H1; rw [List.append_nil]; rfl
    show t σ H fun vs H1 => tr H1 ∧ sp (vs ++ []) H1 Q fun _ _ _ => False
    rw [e0]; exact want
  · refine wpAny_Call_Name_kw (thn ((pe_var (pos := p) hN hv hd hcd).run pins s σ H (fun v H1 => v = .ref g ∧ H1 = H) I ⟨.ref g, hs, rfl, rfl⟩) fun u s1 ⟨v, H1, I1, r1, ev, eH⟩ => ?_)
    subst ev
    rw [eH] at I1
    obtain rfl : u = Value.ref g := r1
    refine PySem.W.callWith_F (first := []) (fnAt_of I1 (htr H ht).1) (thn (ha.run pos pins s1 σ H _ I1 want) fun us s2 ⟨vs, H2, I2, r, h1, q⟩ => ⟨fnAt_of I2 (htr H2 h1).1, ?_⟩) he hpl
    refine wpAny_call (codeAny_mono (N.run X.A X.stack s2 H2 us vs ws Q C8.E0 (room.mono hk) I2.env0 (htr H2 h1).1 (htr H2 h1).2 (B.at_ I2.env0.bs) r (hsp vs H2 Q h1 q)) fun r t' got => ?_)
    match r, got with
    | .ok (.ret u), got => exact I2.after got
theorem calC {P : Program} {w : World} {K : PySem.W.Frag} {mg : Str → Option Value} {base : Heap} {x : Str} {st : Stmt} {f : Addr} {fd : FuncData} {N ps : List Str} {ds : List Value} {dvs : List V} {k : Nat} {sp : Sp} {cdv : Value} (F : C8.Def K mg x st f fd) (hc : fd.code = cdv) (b : Binds K fd ps ds) (d : Vals dvs ds) (S : FnScope N ps (C8.fnScope st)) (len : ∀ vs H Q E, sp vs H Q E → vs.length = ps.length)
    (hbody : ∀ (A : Around) (outer : List Env) (s : Shared) (H : Hp) (vs : List V) (Q : VK) (E : XK), Room k (A.deeper (envOfC x (C8.fnScope st) s.heap.objs.size f cdv)) → sp vs H Q E →
      ∃ t, PSs (cxOf C8.CX0 P w K mg base N x (C8.fnScope st) f cdv A outer s H E).nox (C8.fnBody st) t ∧ t { nx := fun _ H' => Q .non H', rt := Q } (start N vs) H) : C8.Cal P w K mg base (k + 1) x sp dvs := by
  refine ⟨f, fd, ps, ds, ?_, F.mgf, F.kp, b, d⟩
  obtain ⟨oc, od, dV, kV, doc, pm, an, cdv', ct, osl, rfl, lk, hcd⟩ := F.fn.ex
  obtain rfl : cdv' = cdv := hc
  refine fn_of lk hcd S len fun A outer s H vs Q E hr hsp => ?_
  obtain ⟨t, h, q⟩ := hbody A outer s H vs Q E hr hsp
  exact ⟨t, h.nox, q⟩
end LX
set_option maxHeartbeats 2000000
namespace LX
open PySem PySem.Spec PyProof.Rows L2 C8 SX NdefX
def takenN (ok : Nat → Bool) (n : Nat) : List Nat := (List.range n).filter ok
theorem takenN_yes {ok : Nat → Bool} {n : Nat} (h : ok n = true) : takenN ok (n + 1) = takenN ok n ++ [n] := by
  unfold takenN; rw [List.range_succ, List.filter_append, List.filter_cons_of_pos h]; rfl
theorem takenN_no {ok : Nat → Bool} {n : Nat} (h : ok n = false) : takenN ok (n + 1) = takenN ok n := by
  unfold takenN; rw [List.range_succ, List.filter_append, List.filter_cons_of_neg (by rw [h]; exact Bool.false_ne_true)]; exact List.append_nil _
theorem takenN_le {ok : Nat → Bool} {n : Nat} : (takenN ok n).length ≤ n := by
  unfold takenN
  exact Nat.le_trans (List.length_filter_le _ _) (by rw [List.length_range]; exact Nat.le_refl _)
theorem lc_keepF {Rel : Hp → Hp → Prop} {J : It} {n : Nat} {G : Hp → Prop} {Y : Nat → Hp → V → Hp → Prop} {H1 : Hp} (kp : Keep Rel H1) (w : Walk J n G Y) {g : TG} {tt : TT} {te : TE} {vs : List Nat} {σ : L2.St} {D : Addr} {Qd : Hp → Prop} (hD : H1 D = none) (hn : n < sizeLine)
    (ok : Nat → Bool) (Good : Nat → V → Hp → Prop) (hG : ∀ H, Rel H1 H → G H)
    (st : ∀ i y H H', Rel H1 H → Rel H H' → Good i y H → Good i y H') (pt : ∀ i y H acc o, Rel H1 H → H D = some (.lst acc) → Good i y H → Good i y (upd H D o))
    (hs : ∀ i x H H' acc (N : Hp → Prop) (R : V → Hp → Prop), i < n → Rel H1 H → H D = some (.lst acc) → Y i H x H' → (ok i = true → ∀ y H4, Rel H H4 → Good i y H4 → R y H4) → (ok i = false → ∀ H4, Rel H H4 → N H4) →
      g x (wipe σ vs) H' fun σ2 H2 => wipe σ2 vs = wipe σ vs ∧ tt σ2 H2 fun b H3 => if b = true then te σ2 H3 R else N H3)
    (hd : ∀ ys H, ys.length = (takenN ok n).length → (∀ (j k : Nat) y, (takenN ok n)[j]? = some k → ys[j]? = some y → Good k y H) → Rel H1 H → H D = some (.lst ys) → Qd H) :
    ∃ W : Nat → Nat → Hp → Prop, (∃ m, W 0 m (upd H1 D (.lst []))) ∧ ∀ i m H, W i m H →
      (J.stop i H ∧ Qd H) ∨ (J.go i H ∧ ∃ Nx : Hp → Prop, (∀ H', Nx H' → ∃ m', m' < m ∧ W (i + 1) m' H') ∧ ∀ x H', J.yld i H x H' → g x (wipe σ vs) H' fun σ2 H2 => wipe σ2 vs = wipe σ vs ∧ tt σ2 H2 fun b H3 =>
        if b = true then te σ2 H3 fun y H4 => ∃ acc, H4 D = some (.lst acc) ∧ acc.length < sizeLine ∧ Nx (upd H4 D (.lst (acc ++ [y]))) else Nx H3) := by
  refine lc_it w (fun i H => ∃ acc, acc.length = (takenN ok i).length ∧ H D = some (.lst acc) ∧ Rel H1 H ∧ ∀ (j k : Nat) y, (takenN ok i)[j]? = some k → acc[j]? = some y → Good k y H) ⟨[], rfl, upd_same, kp.put _ _ _ kp.refl hD, fun j k y _ e => by simp at e⟩
    (fun i H _ ⟨_, _, _, r, _⟩ => hG H r) (fun i x H H' hi ⟨acc, hl, hDa, r, hg⟩ hy => ?_) (fun H ⟨acc, hl, hDa, r, hg⟩ => hd acc H hl hg r hDa)
  have hle := takenN_le (ok := ok) (n := i)
  refine hs i x H H' acc _ _ hi r hDa hy (fun ho y H4 r4 gy => ?_) (fun ho H4 r4 => ?_)
  · have hD4 := kp.get _ _ _ _ r4 hD r hDa
    have r5 := kp.trans _ _ r r4
    refine ⟨acc, hD4, by omega, acc ++ [y], by rw [takenN_yes ho]; simp [hl], upd_same, kp.put _ _ _ r5 hD, fun j k z ek e => ?_⟩
    rw [takenN_yes ho] at ek
    rcases Nat.lt_or_ge j acc.length with h | h
    · rw [List.getElem?_append_left h] at e
      rw [List.getElem?_append_left (by omega)] at ek
      exact pt _ _ _ _ _ r5 hD4 (st _ _ _ _ r r4 (hg j k z ek e))
    · rw [List.getElem?_append_right h] at e
      rw [List.getElem?_append_right (by omega)] at ek
      have hj : j - acc.length = 0 := by
        rcases Nat.lt_or_ge (j - acc.length) 1 with z | z
        · omega
        · rw [List.getElem?_eq_none (by simpa using z)] at e; cases e
      have hj2 : j - (takenN ok i).length = 0 := by omega
      rw [hj] at e; rw [hj2] at ek
      obtain rfl : y = z := Option.some.inj e
      obtain rfl : i = k := Option.some.inj ek
      exact pt _ _ _ _ _ r5 hD4 gy
  · have hD4 := kp.get _ _ _ _ r4 hD r hDa
    exact ⟨acc, by rw [takenN_no ho]; exact hl, hD4, kp.trans _ _ r r4, fun j k y ek e => by rw [takenN_no ho] at ek; exact st _ _ _ _ r r4 (hg j k y ek e)⟩
end LX
set_option maxHeartbeats 2000000
namespace LX
open PySem PySem.Spec PyProof.Rows L2 C8 SX
theorem S_contains (sg : List Nat) (c : Nat) : (S sg).cps.contains c = decide (c ∈ sg) := by
  rw [Bool.eq_iff_iff, decide_eq_true_eq, ← Array.contains_toList]
  simp [S]
theorem S_empty {l : List Nat} : S l = S [] ↔ l = [] := by
  constructor
  · intro h
    have : (S l).cps.toList = (S []).cps.toList := congrArg (fun z : Str => z.cps.toList) h
    simpa [S] using this
  · rintro rfl; rfl
theorem takeWhile_all {p : Nat → Bool} : ∀ {l : List Nat}, (∀ c ∈ l, p c = true) → l.takeWhile p = l
  | [], _ => rfl
  | c :: l, h => by rw [List.takeWhile_cons, if_pos (h c List.mem_cons_self), takeWhile_all fun d hd => h d (List.mem_cons_of_mem _ hd)]
theorem takeWhile_short {p : Nat → Bool} : ∀ {l : List Nat}, ¬ (∀ c ∈ l, p c = true) → (l.takeWhile p).length < l.length ∧ ∃ d r, l.drop (l.takeWhile p).length = d :: r ∧ p d = false
  | [], h => absurd (fun _ h => nomatch h) h
  | c :: l, h => by
    by_cases hc : p c = true
    · have h' : ¬ ∀ c ∈ l, p c = true := fun q => h fun d hd => by
        rcases List.mem_cons.mp hd with rfl | z
        · exact hc
        · exact q d z
      obtain ⟨i1, d, r, i2, i3⟩ := takeWhile_short h'
      rw [List.takeWhile_cons, if_pos hc]
      exact ⟨Nat.succ_lt_succ i1, d, r, i2, i3⟩
    · rw [List.takeWhile_cons, if_neg hc]
      exact ⟨Nat.succ_pos _, c, l, rfl, by simpa using hc⟩
theorem strip_nil {l sg : List Nat} : Txt.stripChars (S l) (S sg) = S [] ↔ ∀ c ∈ l, c ∈ sg := by
  unfold Txt.stripChars Txt.stripBy stripSame stripped stripLo stripHi
  have eg : (S sg).cps.contains = fun c => decide (c ∈ sg) := funext fun c => S_contains sg c
  have el : (S l).cps.toList = l := rfl
  have en : (S l).length = l.length := S_len l
  rw [eg, if_pos rfl, if_pos rfl, el, en]
  generalize hp : (fun c => decide (c ∈ sg)) = p
  have hpc : ∀ c, p c = true ↔ c ∈ sg := fun c => by rw [← hp]; exact decide_eq_true_iff
  by_cases h : ∀ c ∈ l, p c = true
  · refine ⟨fun _ c hc => (hpc c).mp (h c hc), fun _ => ?_⟩
    rw [takeWhile_all h, List.drop_length, List.reverse_nil, List.takeWhile_nil, List.length_nil, Nat.sub_zero]
    by_cases e : l = []
    · subst e; rfl
    · have : l.length ≠ 0 := fun z => e (List.length_eq_zero_iff.mp z)
      rw [if_neg (by simpa using this)]
      show (⟨(S l).cps.extract l.length l.length⟩ : Str) = S []
      simp [S]
  · obtain ⟨i1, d, r, i2, i3⟩ := takeWhile_short h
    refine ⟨fun e => absurd e ?_, fun q => absurd (fun c hc => (hpc c).mpr (q c hc)) h⟩
    rw [i2]
    have hr : ¬ ∀ c ∈ (d :: r).reverse, p c = true := fun q => by have := q d (by simp); rw [i3] at this; cases this
    have j1 := (takeWhile_short hr).1
    have hlen : (d :: r).length = l.length - (l.takeWhile p).length := by rw [← i2, List.length_drop]
    rw [List.length_reverse] at j1
    by_cases same : ((l.takeWhile p).length == 0 && l.length - ((d :: r).reverse.takeWhile p).length == l.length) = true
    · rw [if_pos same]
      intro e
      have := S_empty.mp e
      subst this
      exact absurd i1 (by simp)
    · rw [if_neg same]
      intro e
      have e2 : ((S l).cps.extract (l.takeWhile p).length (l.length - ((d :: r).reverse.takeWhile p).length)).size = 0 := by
        have : (Builtin.Str.strSub (S l) (l.takeWhile p).length (l.length - ((d :: r).reverse.takeWhile p).length)).cps = (S []).cps := by rw [e]
        rw [show (S l).cps.extract (l.takeWhile p).length (l.length - ((d :: r).reverse.takeWhile p).length) = (S []).cps from this]; rfl
      rw [Array.size_extract] at e2
      have e3 : (S l).cps.size = l.length := by simp [S]
      rw [e3] at e2
      omega
theorem strip_eq {l sg : List Nat} : decide (Txt.stripChars (S l) (S sg) = S []) = decide (∀ c ∈ l, c ∈ sg) := decide_eq_decide.mpr strip_nil
def az : List Nat := (List.range 26).map (· + 97)
theorem az_mem {c : Nat} : c ∈ az ↔ 97 ≤ c ∧ c ≤ 122 := by
  unfold az
  rw [List.mem_map]
  constructor
  · rintro ⟨i, hi, rfl⟩
    have := List.mem_range.mp hi
    omega
  · rintro ⟨h1, h2⟩
    exact ⟨c - 97, List.mem_range.mpr (by omega), by omega⟩
theorem s_az : (Str.ofString "abcdefghijklmnopqrstuvwxyz") = S az := by decide +kernel
end LX
set_option maxHeartbeats 2000000
namespace LX
open PySem PySem.Spec PyProof.Rows L2 C8 SX
def outD : Expr → Scope
  | .DictComp _ _ _ s _ => s
  | _ => { kind := .function, names := [], isGenerator := false, isCoroutine := false }
end LX
set_option maxHeartbeats 2000000
namespace LX
open PySem PySem.Spec PyProof.Rows L2 C8 SX
structure Fit (k n : Nat) (d : PyData) : Prop where
  lay : d.canLay0 = true
  int : d.intsShort 13 = true
  sho : d.showable = true
  dep : d.depth ≤ k
  wei : d.weight ≤ n
theorem Fit.mono {k n k' n' : Nat} {d : PyData} (f : Fit k n d) (hk : k ≤ k') (hn : n ≤ n') : Fit k' n' d := ⟨f.lay, f.int, f.sho, Nat.le_trans f.dep hk, Nat.le_trans f.wei hn⟩
theorem Fit.text {k n : Nat} {l : List Nat} (h : ∀ c ∈ l, c < 1114112) (hn : l.length ≤ n) : Fit k n (.str (S l)) := by
  refine ⟨?_, rfl, rfl, Nat.zero_le _, by simpa [PyData.weight, S] using hn⟩
  show (S l).cps.all (· < 0x110000) = true
  rw [← Array.all_toList, List.all_eq_true]
  exact fun c hc => decide_eq_true (h c hc)
theorem Fit.non {k n : Nat} : Fit k n .none := ⟨rfl, rfl, rfl, Nat.zero_le _, Nat.zero_le _⟩
theorem Fit.bl {k n : Nat} {b : Bool} : Fit k n (.bool b) := ⟨rfl, rfl, rfl, Nat.zero_le _, Nat.zero_le _⟩
theorem Fit.all {k n : Nat} : ∀ {ds : List PyData}, (∀ d ∈ ds, Fit k n d) → PyData.canLayAll0 ds = true ∧ PyData.intsShortAll 13 ds = true ∧ PyData.showableAll ds = true ∧ PyData.depthAll ds ≤ k + 1 ∧ PyData.weightAll ds ≤ ds.length * (n + 1)
  | [], _ => ⟨rfl, rfl, rfl, Nat.zero_le _, Nat.zero_le _⟩
  | d :: ds, h => by
    obtain ⟨h1, h2, h3, h4, h5⟩ := Fit.all (ds := ds) fun x hx => h x (List.mem_cons_of_mem _ hx)
    have f := h d List.mem_cons_self
    refine ⟨?_, ?_, ?_, ?_, ?_⟩
    · show (d.canLay0 && PyData.canLayAll0 ds) = true; rw [f.lay, h1]; rfl
    · show (d.intsShort 13 && PyData.intsShortAll 13 ds) = true; rw [f.int, h2]; rfl
    · show (d.showable && PyData.showableAll ds) = true; rw [f.sho, h3]; rfl
    · have e : PyData.depthAll (d :: ds) = max d.depth (PyData.depthAll ds) ∨ PyData.depthAll (d :: ds) ≤ max (d.depth + 1) (PyData.depthAll ds) := by
        first | exact .inl rfl | exact .inr (by unfold PyData.depthAll; omega)
      have := f.dep
      rcases e with e | e
      · rw [e]; omega
      · omega
    · show d.weight + 1 + PyData.weightAll ds ≤ _
      have := f.wei
      rw [List.length_cons, Nat.add_mul]
      omega
theorem Fit.tup {k n m : Nat} {ds : List PyData} (h : ∀ d ∈ ds, Fit k n d) (hm : ds.length ≤ m) : Fit (k + 2) (m * (n + 1)) (.tuple ds) := by
  obtain ⟨h1, h2, h3, h4, h5⟩ := Fit.all h
  refine ⟨h1, h2, h3, ?_, Nat.le_trans h5 (Nat.mul_le_mul_right _ hm)⟩
  show PyData.depthAll ds + 1 ≤ _
  omega
theorem Fit.lst {k n m : Nat} {ds : List PyData} (h : ∀ d ∈ ds, Fit k n d) (hm : ds.length ≤ m) : Fit (k + 2) (m * (n + 1)) (.list ds) := by
  obtain ⟨h1, h2, h3, h4, h5⟩ := Fit.all h
  refine ⟨h1, h2, h3, ?_, Nat.le_trans h5 (Nat.mul_le_mul_right _ hm)⟩
  show PyData.depthAll ds + 1 ≤ _
  omega
theorem Fit.size {k n : Nat} {d : PyData} (f : Fit k n d) (hn : n ≤ 1000000) : d.shown.length ≤ sizeLine := by
  have h := PyData.shown_le 13 (by decide) d (PyData.leavesShort_of_canLay0 13 d f.lay f.int)
  have := f.wei
  have e : sizeLine = 16777216 := rfl
  omega
theorem Fit.shaped {k n : Nat} {d : PyData} (f : Fit k n d) (hk : k ≤ 60) (h : (∃ ds, d = .tuple ds) ∨ ∃ ds, d = .list ds) : SeqAt.shaped d = true := by
  rcases h with ⟨ds, rfl⟩ | ⟨ds, rfl⟩
  · show (PyData.canLayAll0 ds && decide (PyData.depthAll ds + 1 ≤ 64)) = true
    have h1 : PyData.canLayAll0 ds = true := f.lay
    have h2 : PyData.depthAll ds + 1 ≤ k := f.dep
    rw [h1, Bool.true_and, decide_eq_true_eq]; omega
  · show (PyData.canLayAll0 ds && decide (PyData.depthAll ds + 1 ≤ 64)) = true
    have h1 : PyData.canLayAll0 ds = true := f.lay
    have h2 : PyData.depthAll ds + 1 ≤ k := f.dep
    rw [h1, Bool.true_and, decide_eq_true_eq]; omega
section
variable {X : Cx} {j : Nat}
theorem call_reprF (gd : X.A.guards = some []) (room : Room j X.A) (K : PySem.W.Frag) (hK : X.K = K := by rfl) : CallR X (.builtin "repr") (fun xs H Q => ∃ (a : Addr) (d : PyData) (k n : Nat), xs = [.ref a] ∧ Dp K H (.ref a) d ∧ Fit k n d ∧ k ≤ 60 ∧ n ≤ 1000000 ∧ Q (.str d.shown) H) := by
  subst hK
  intro pins s σ H xs us Q I rel want
  obtain ⟨a, d, k, n, rfl, hd, f, hk, hn, q⟩ := want
  exact call_reprG gd room pins s σ H _ us Q I rel ⟨a, d, rfl, hd, f.sho, PyData.hasDict_of_canLay d f.lay, Nat.le_trans f.dep hk, f.size hn, q⟩
end
mutual
theorem Dp.same {K : PySem.W.Frag} {H H' : Hp} (s : Same H H') : ∀ {d : PyData} {v : V}, Dp K H v d → Dp K H' v d
  | .none, _, h => by cases h; exact .non
  | .bool _, _, h => by cases h; exact .bl _
  | .int _, _, h => by cases h; exact .int _
  | .str _, _, h => by cases h; exact .str _
  | .list _, _, h => by cases h with | lst q r => exact .lst (s.seq q) (DpAll.same s r)
  | .tuple _, _, h => by cases h with | tup q r => exact .tup (sm_seqT s q) (DpAll.same s r)
  | .dict _, _, h => by cases h
theorem DpAll.same {K : PySem.W.Frag} {H H' : Hp} (s : Same H H') : ∀ {ds : List PyData} {vs : List V}, DpAll K H vs ds → DpAll K H' vs ds
  | [], _, h => by cases h; exact .nil
  | _ :: _, _, h => by cases h with | cons q r => exact .cons (Dp.same s q) (DpAll.same s r)
end
theorem dpAll_get {K : PySem.W.Frag} {H : Hp} {α : Type} {f : α → V} {g : α → PyData} : ∀ {xs : List α}, (∀ x ∈ xs, Dp K H (f x) (g x)) → DpAll K H (xs.map f) (xs.map g)
  | [], _ => .nil
  | x :: xs, h => .cons (h x List.mem_cons_self) (dpAll_get fun y hy => h y (List.mem_cons_of_mem _ hy))
end LX
set_option maxHeartbeats 2000000
namespace LX
open PySem PySem.Spec PyProof.Rows L2 C8 SX
section
variable {X : Cx}
theorem pe_joinK (K : PySem.W.Frag) {o e : Expr} {to te : TE} {apos pos : Pos} (ho : PE X o to) (he : PE X e te) (hK : X.K = K := by rfl) (hs : starEach [e] X.env = [(false, eval e X.env)] := by rfl) (hbase : attributeBase o "join" X.env (eval o X.env) = eval o X.env := by rfl) (hline : (apos.endLine == pos.line) = true := by rfl) :
    PE X (.Call (.Attribute o "join" apos) [e] [] pos) (tM1 (fun x xs H Q => ∃ a p, ∃ ys : List Str, x = .str a ∧ xs = [.ref p] ∧ (SqL K H p (ys.map V.str) ∨ SqT K H p (ys.map V.str)) ∧
      (ys.map (·.length)).sum + ys.length * a.length ≤ 16777216 ∧ Q (.str (Txt.join a ys)) H) to te) := by subst hK; exact pe_join ho he hs hbase hline
end
def tJd (ts : List TE) : TE := fun σ H Q => tJs ts Str.empty σ H fun out H1 => Q (.str out) H1
theorem pe_joinedD {X : Cx} {v1 v2 : Expr} {rest : List Expr} {ts : List TE} {pos : Pos} (h : PJ X (v1 :: v2 :: rest) ts) : PE X (.JoinedStr (v1 :: v2 :: rest) pos) (tJd ts) := pe_joined h
theorem joinL_len {sep : List Nat} {m : Nat} : ∀ {ys : List (List Nat)}, (∀ y ∈ ys, y.length ≤ m) → (TL.joinL sep ys).length ≤ ys.length * (m + sep.length)
  | [], _ => by simp [TL.joinL]
  | [y], h => by
    have := h y List.mem_cons_self
    simp [TL.joinL]
    omega
  | y :: z :: ys, h => by
    have ih := joinL_len (sep := sep) (ys := z :: ys) fun x hx => h x (List.mem_cons_of_mem _ hx)
    have h1 := h y List.mem_cons_self
    have e : TL.joinL sep (y :: z :: ys) = y ++ sep ++ TL.joinL sep (z :: ys) := by simp [TL.joinL]
    rw [e, List.length_append, List.length_append, List.length_cons, Nat.add_mul]
    omega
theorem sum_lens {m : Nat} : ∀ {ys : List (List Nat)}, (∀ l ∈ ys, l.length ≤ m) → ((ys.map S).map (·.length)).sum ≤ ys.length * m
  | [], _ => by simp
  | y :: ys, h => by
    have ih := sum_lens (m := m) (ys := ys) fun l hl => h l (List.mem_cons_of_mem _ hl)
    have h0 := h y List.mem_cons_self
    simp only [List.map_cons, List.sum_cons, List.length_cons]
    rw [S_len, Nat.add_mul]
    omega
theorem joinS_ok {m n : Nat} {sep : List Nat} {ys : List (List Nat)} (h : ∀ l ∈ ys, l.length ≤ m) (hn : ys.length ≤ n) (hm : n * (m + sep.length) ≤ 16000000) : ((ys.map S).map (·.length)).sum + (ys.map S).length * (S sep).length ≤ 16777216 := by
  rw [S_len, List.length_map]
  have := sum_lens h
  have h2 : ys.length * (m + sep.length) ≤ n * (m + sep.length) := Nat.mul_le_mul_right _ hn
  rw [Nat.mul_add] at h2
  omega
end LX
set_option maxHeartbeats 2000000
namespace LX
open PySem PySem.Spec PyProof.Rows L2 C8 SX
section
variable {X : Cx} {k j : Nat} {C : Addr} {sp : Sp}
theorem met_runV {mth : Str} {pins : List (Addr × Obj)} {σ : L2.St} {H : Hp} {s : Shared} {A : Around} {a : Addr} {y : V} {u : Value} {Q : Value → Shared → Prop} (c : Met X.prog X.w X.K X.mg X.base k C mth sp []) (hr : Room k A) (hfr : A.frames = X.A.frames) (I : Inv X pins σ H s) (ry : RelV y u)
    {R : VK} (hsp : sp [.ref a, y] H R C8.E0) (hQ : ∀ v z H' s', Inv X pins σ H' s' → RelV z v → R z H' → Q v s') :
    ∃ f, PySem.W.findIn X.K (.ref C) mth = some (some (.ref f)) ∧ PySem.W.isFn X.K (.ref f) = true ∧ wpAny (model X.prog X.w) A (call (.ref f) [.ref a, u]) Q X.xe s := by
  obtain ⟨f, fd, ps, ds, hc, hm, F, hb, hd⟩ := c.ex
  refine ⟨f, hm.at_, hm.fn, ?_⟩
  have e0 : Env0 X.prog X.w X.K X.mg X.base A X.stack s H := by
    have e := I.env0
    exact ⟨by rw [hfr]; exact e.frames, e.mod, e.bs, e.bsz, e.funs, e.frf, e.hok, e.bare⟩
  have hds : ds = [] := by cases hd; rfl
  subst hds
  have hl := F.len _ _ _ _ hsp
  have r2 : Vals [V.ref a, y] [Value.ref a, u] := .cons rfl (.cons ry .nil)
  refine wpAny_call (codeAny_mono (F.run A X.stack s H ⟨[.ref a, u], []⟩ [.ref a, u] [.ref a, y] _ C8.E0 hr e0 (by
    have := hb s [.ref a, u] I.kIn (by simpa using hl)
    simpa using this) r2 hsp) fun r s' hq => ?_)
  cases r with
  | error e => exact C8.pass0 (E := C8.E0) pins σ H s e s' I hq
  | ok fl =>
    cases fl with
    | ret w =>
      obtain ⟨z, H', I', rz, q⟩ := I.after hq
      exact hQ w z H' s' I' rz q
    | next => exact False.elim hq
    | brk => exact False.elim hq
    | cont => exact False.elim hq
def rEqIV (K : PySem.W.Frag) (C : Addr) (sp : Sp) : R2 := fun x y H Q => ∃ a dx fs t, x = .ref a ∧ H a = some (.ins C dx fs) ∧ TyX K H y t ∧ PySem.W.notFirst K C t = true ∧ sp [.ref a, y] H (fun v H' => ∃ r, v = .bl r ∧ Q (.bl r) H') C8.E0
theorem op_eqIV (c : Met X.prog X.w X.K X.mg X.base k C "__eq__" sp []) (hr : Room j X.A) (hk : k ≤ j) : OpR X (compareOp .Eq) (rEqIV X.K C sp) := by
  intro pins s σ H x y v u Q I rx ry h
  obtain ⟨a, dx, fs, t, rfl, ha, hty, hnf, hsp⟩ := h
  cases rx
  obtain ⟨mA, J, _⟩ := ins_get I.hok ha
  obtain ⟨od, J, _⟩ := J.look
  obtain ⟨m, hF⟩ := I.fr
  obtain ⟨P, kx, hP, _⟩ := kit_of I ry hty
  obtain ⟨f, hs, hf, hw⟩ := met_runV (Q := PySem.W.CmpBack (EP X pins σ Q)) c (hr.mono hk) rfl I ry hsp (fun v z H' s' I' rz q => by
    obtain ⟨r, rfl, q⟩ := q
    cases rz
    exact ⟨.bl r, H', I', rfl, q⟩)
  exact PySem.W.cmp_K (op := .Eq) (tb := t) hr.units0 hF I.ok.mod.kin J (kx.ty _ _ I.kIn hP) hnf hs hf hw
theorem op_eqDK (K : PySem.W.Frag) (hr : Room j X.A) (h : X.K = K := by rfl) : OpR X (compareOp .Eq) (rEqD K) := by subst h; exact op_eqD hr.units
theorem op_neDK (K : PySem.W.Frag) (hr : Room j X.A) (h : X.K = K := by rfl) : OpR X (compareOp .NotEq) (rNeD K) := by subst h; exact op_neD hr.units
end
def tD (xs : List (List Nat)) : PyData := .tuple (xs.map fun l => .str (S l))
def ttD (xss : List (List (List Nat))) : PyData := .tuple (xss.map tD)
theorem dp_t {K : PySem.W.Frag} {H : Hp} {a : Addr} {xs : List (List Nat)} (h : SqT K H a (txs xs)) : Dp K H (.ref a) (tD xs) := .tup h (dp_strs xs)
theorem eqv_t (xs ys : List (List Nat)) : PyData.eqv (tD xs) (tD ys) = decide (xs = ys) := eqv_strs xs ys
theorem eqv_tts : ∀ xss yss : List (List (List Nat)), PyData.eqvAll (xss.map tD) (yss.map tD) = decide (xss = yss)
  | [], [] => rfl
  | [], _ :: _ => rfl
  | _ :: _, [] => rfl
  | x :: xs, y :: ys => by
    show (PyData.eqv (tD x) (tD y) && PyData.eqvAll (xs.map tD) (ys.map tD)) = _
    rw [eqv_t, eqv_tts xs ys, ← Bool.decide_and]
    exact decide_eq_decide.mpr (by rw [List.cons.injEq])
theorem eqv_tt (xss yss : List (List (List Nat))) : PyData.eqv (ttD xss) (ttD yss) = decide (xss = yss) := eqv_tts xss yss
theorem fit_t {m n : Nat} {xs : List (List Nat)} (hs : Small xs) (hl : ∀ l ∈ xs, l.length ≤ n) (hm : xs.length ≤ m) : Fit 2 (m * (n + 1)) (tD xs) :=
  Fit.tup (k := 0) (n := n) (fun d hd => by obtain ⟨l, hl', rfl⟩ := List.mem_map.mp hd; exact Fit.text (hs l hl') (hl l hl')) (by rw [List.length_map]; exact hm)
theorem fit_tt {m n p : Nat} {xss : List (List (List Nat))} (h : ∀ xs ∈ xss, Small xs ∧ (∀ l ∈ xs, l.length ≤ n) ∧ xs.length ≤ m) (hp : xss.length ≤ p) : Fit 4 (p * (m * (n + 1) + 1)) (ttD xss) :=
  Fit.tup (k := 2) (fun d hd => by obtain ⟨xs, hx, rfl⟩ := List.mem_map.mp hd; obtain ⟨h1, h2, h3⟩ := h xs hx; exact fit_t h1 h2 h3) (by rw [List.length_map]; exact hp)
end LX
set_option maxHeartbeats 1000000
namespace LX
open PySem PySem.Spec PyProof.Rows L2 C8 SX
section
variable {X : Cx} {K : PySem.W.Frag} {H : Hp}
def inz (xs : List Int) : List V := xs.map V.int
theorem inz_len (xs : List Int) : (inz xs).length = xs.length := List.length_map ..
theorem dp_inz : ∀ xs : List Int, DpAll K H (inz xs) (xs.map PyData.int)
  | [] => .nil
  | x :: xs => .cons (.int _) (dp_inz xs)
theorem lay_inz : ∀ xs : List Int, PyData.canLayAll0 (xs.map PyData.int) = true ∧ PyData.depthAll (xs.map PyData.int) ≤ 1
  | [] => ⟨rfl, Nat.zero_le _⟩
  | x :: xs => by
    obtain ⟨h1, h2⟩ := lay_inz xs
    refine ⟨?_, ?_⟩
    · show (PyData.canLay0 (.int x) && PyData.canLayAll0 (xs.map PyData.int)) = true
      rw [h1, Bool.and_true]; rfl
    · show max (PyData.depth (.int x)) (PyData.depthAll (xs.map PyData.int)) ≤ 1
      have e : PyData.depth (.int x) ≤ 1 := Nat.zero_le _
      omega
theorem shaped_inz (xs : List Int) : SeqAt.shaped (.list (xs.map PyData.int)) = true := by
  obtain ⟨h1, h2⟩ := lay_inz xs
  show (PyData.canLayAll0 _ && decide (PyData.depthAll _ + 1 ≤ 64)) = true
  rw [h1, Bool.true_and, decide_eq_true_eq]; omega
def rNeE : R2 := fun x y H Q => ∃ (a b : Addr) (xs : List Int), x = .ref a ∧ y = .ref b ∧ H a = some (.lst (inz xs)) ∧ H b = some (.lst []) ∧ Q (.bl (!xs.isEmpty)) H
theorem op_neE {k : Nat} (hr : Room k X.A) : OpR X (compareOp .NotEq) rNeE := by
  intro pins s σ H x y v u Q I rx ry h
  obtain ⟨a, b, xs, rfl, rfl, ha, hb, q⟩ := h
  refine op_neD hr.units pins s σ H _ _ v u Q I rx ry ⟨_, _, .lst (SqL.of ha) (dp_inz xs), .lst (SqL.of hb) .nil, shaped_inz xs, shaped_inz [], ?_⟩
  cases xs with
  | nil => exact q
  | cons x xs => exact q
theorem at_last {xs : List V} {v : V} (h : 0 < xs.length) (e : xs[xs.length - 1]? = some v) : atI xs (-1) = some v := by
  have : ixN xs.length (-1) = some (xs.length - 1) := by
    unfold ixN
    rw [if_neg (by decide), if_pos (by omega)]
    congr 1; omega
  unfold atI
  rw [this]; exact e
def SeqV (K : PySem.W.Frag) (H : Hp) (x : V) (ys : List V) : Prop :=
  (∃ p, x = .ref p ∧ (SqL K H p ys ∨ SqT K H p ys)) ∨ ∃ l : List Nat, x = .str (S l) ∧ l.length ≤ sizeLine ∧ ys = l.map fun c => V.str (S [c])
def rLenA (K : PySem.W.Frag) : List V → Hp → VK → Prop := fun xs H Q => ∃ x ys, xs = [x] ∧ SeqV K H x ys ∧ Q (.int ys.length) H
theorem lenA (K : PySem.W.Frag) (h : X.K = K := by rfl) : CallR X (.builtin "len") (rLenA K) := by
  subst h
  intro pins s σ H xs us Q I r q
  obtain ⟨x, ys, rfl, hh, q⟩ := q
  rcases hh with ⟨p, rfl, hp⟩ | ⟨l, rfl, hl, rfl⟩
  · exact lenK X.K rfl pins s σ H _ us Q I r ⟨p, ys, rfl, hp, q⟩
  · refine call_len_str pins s σ H _ us Q I r ⟨S l, rfl, by rw [S_len]; exact hl, ?_⟩
    rw [S_len]
    rw [List.length_map] at q
    exact q
def rIxA (K : PySem.W.Frag) : R2 := fun x y H Q => ∃ ys i v, y = .int i ∧ SeqV K H x ys ∧ atI ys i = some v ∧ Q v H
theorem ixA (K : PySem.W.Frag) (h : X.K = K := by rfl) : IxR X (rIxA K) := by
  subst h
  intro value slice pins s σ H x y v u Q I rx ry q hs
  obtain ⟨ys, i, w, rfl, hh, ha, q⟩ := q
  refine ix_seq value slice pins s σ H x (.int i) v u Q I rx ry ?_ hs
  rcases hh with ⟨p, rfl, hp | hp⟩ | ⟨l, rfl, hl, rfl⟩
  · exact .inl ⟨p, ys, i, w, rfl, rfl, hp, ha, q⟩
  · exact .inr (.inl ⟨p, ys, i, w, rfl, rfl, hp, ha, q⟩)
  · have e : ∀ j, (l.map fun c => V.str (S [c]))[j]? = (l[j]?).map fun c => V.str (S [c]) := fun j => List.getElem?_map ..
    have e2 : atI l i = none ∧ w = w ∨ ∃ c, atI l i = some c ∧ w = .str (S [c]) := by
      unfold atI at ha ⊢
      rw [List.length_map] at ha
      cases hx : ixN l.length i with
      | none => rw [hx] at ha; cases ha
      | some j =>
        rw [hx] at ha
        have ha : (l.map fun c => V.str (S [c]))[j]? = some w := ha
        rw [e] at ha
        cases hc : l[j]? with
        | none => rw [hc] at ha; cases ha
        | some c => rw [hc] at ha; exact .inr ⟨c, hc, (Option.some.inj ha).symm⟩
    rcases e2 with ⟨e3, _⟩ | ⟨c, e3, rfl⟩
    · exfalso
      unfold atI at ha e3
      rw [List.length_map] at ha
      cases hx : ixN l.length i with
      | none => rw [hx] at ha; cases ha
      | some j =>
        rw [hx] at ha e3
        have ha : (l.map fun c => V.str (S [c]))[j]? = some w := ha
        have e3 : l[j]? = none := e3
        rw [e, e3] at ha; cases ha
    · exact .inr (.inr ⟨S l, i, c, rfl, rfl, by rw [S_len]; exact hl, e3, q⟩)
theorem le1000 {n : Nat} (h : n ≤ 1000) : n ≤ sizeLine := Nat.le_trans h (by decide)
theorem inz_get {cs : List Int} {i : Nat} {x : V} (h : (inz cs)[i]? = some x) : ∃ z, cs[i]? = some z ∧ x = .int z := by
  unfold inz at h
  rw [List.getElem?_map] at h
  cases q : cs[i]? with
  | none => rw [q] at h; cases h
  | some l => rw [q] at h; exact ⟨l, rfl, (Option.some.inj h).symm⟩
theorem inz_of : ∀ {ys : List V}, (∀ (j : Nat) y, ys[j]? = some y → ∃ z : Int, y = .int z) → ∃ cs : List Int, ys = inz cs
  | [], _ => ⟨[], rfl⟩
  | y :: ys, h => by
    obtain ⟨z, rfl⟩ := h 0 y rfl
    obtain ⟨cs, rfl⟩ := inz_of (ys := ys) fun j z q => h (j + 1) z q
    exact ⟨z :: cs, rfl⟩
theorem nxt {D : Ends} {σ : L2.St} {H : Hp} (h : D.nx σ H) : tNext D σ H := h
end
end LX
set_option maxHeartbeats 4000000
namespace EV
open PySem PySem.HandSPX
open Builtin Builtin.ObjectAttr
section
variable {M : Model} {A : Around} {E : Value → Shared → Prop} {h : Heap} {g : Array GenState} {d : Drawn} {t : Nat} {os : OsState}
variable {nm q : Str} {C N : Addr} {bs bm bmB : List Value} {hdct : Bool} {sn : List Str} {sub : List Value} {ab : Bool} {col : Option Bool} {dd : Option Addr} {k0 k1 k2 k3 k5 : Option Value} {B newId initId : String}
theorem check_new_kw (F : ExcBaseFacts B newId initId bmB) (hB : bm.contains (.type B) = true) {rest : List Value} {kw : List (Str × Value)} {Q : Unit → Shared → Prop}
    (hC : h.get? C = some (excClassObj nm q C N bs bm hdct sn sub ab col dd k0 k1 k2 k3 k5 newId)) (hq : Q () ⟨h, g, d, t, os⟩) : wpAny M A (checkBuiltinCall newId ⟨.ref C :: rest, kw⟩) Q E ⟨h, g, d, t, os⟩ := by
  have hcont : (Value.ref C :: bm).contains (.type B) = true := by rw [List.contains_cons, hB, Bool.or_true]
  have hstar := F.noStar
  simp only [checkBuiltinCall, F.newKind, F.newSplit, F.newRow]
  repeat (first | refine wpAny_loadPart_at hC ?_ | (refine wpAny_isSubtype_exc hC ?_; rw [hcont]) | refine wpAny_staticBase_exc hC ?_ | refine wpAny_madeBy_exc hC ?_ | simp only [bne_self_eq_false, Bool.false_eq_true, if_false] | wp_step)
  exact hq
end
section
variable {prog : Program} {w : World} {A : Around} {E : Value → Shared → Prop} {R : Result → Shared → Prop} {h : Heap} {g : Array GenState} {d : Drawn} {t : Nat} {os : OsState}
variable {nm q : Str} {C N : Addr} {bs bm bmB : List Value} {hdct : Bool} {sn : List Str} {sub : List Value} {ab : Bool} {col : Option Bool} {dd : Option Addr} {k0 k1 k2 k3 k5 : Option Value} {B newId initId : String}
theorem new_kw (F : ExcBaseFacts B newId initId bmB) (hB : bm.contains (.type B) = true) (hA : bm.contains (.type "AttributeError") = false) (hN : bm.contains (.type "NameError") = false) {rest : List Value} {kw : List (Str × Value)}
    (hC : h.get? C = some (excClassObj nm q C N bs bm hdct sn sub ab col dd k0 k1 k2 k3 k5 newId))
    (hq : R (.ok (.ret (.ref (h.objs.size + 1)))) ⟨(h.push { cls := .type "tuple", data := .seq rest.toArray }).push
      { cls := .ref C, data := .fields #[.ref h.objs.size, .none, .none, .none, .bool false, .none] }, g, d, t, os⟩) (hrest : rest.length ≤ sizeLine) :
    codeAny (model prog w) A (.builtin newId ⟨.ref C :: rest, kw⟩) R ⟨h, g, d, t, os⟩ := by
  have hends := F.ends
  have hcB : (Value.ref C :: bm).contains (.type B) = true := by rw [List.contains_cons, hB, Bool.or_true]
  have hcA : (Value.ref C :: bm).contains (.type "AttributeError") = false := by rw [List.contains_cons, hA]; rfl
  have hcN : (Value.ref C :: bm).contains (.type "NameError") = false := by rw [List.contains_cons, hN]; rfl
  refine codeAny_builtinAt F.entry ?_
  unfold Builtin.«BaseException.__new__»
  refine wpAt_bind ?_
  show wpAt _ _ _ (stack >>= _) _ _ _
  refine wpAt_bind (wpAt_stack fun p below => wpAt_of_wpAny ?_)
  wp_walk
  refine wpAt_of_wpAny ?_
  rw [F.owner]
  repeat (first | with_reducible refine wpAny_madeHere_exc F.canon hC ?_ | with_reducible refine wpAny_loadPart_at hC ?_ | (with_reducible refine wpAny_isSubtype_exc hC ?_; first | rw [hcB] | rw [hcA] | rw [hcN]) | wp_step)
  show R _ _
  rw [Heap.size_push]
  exact hq
theorem type_call_kw (F : ExcBaseFacts B newId initId bmB) (hB : bm.contains (.type B) = true) (hA : bm.contains (.type "AttributeError") = false) (hN : bm.contains (.type "NameError") = false) {rest : List Value} {kw : List (Str × Value)} {fI : Addr} {Q : Fin → Shared → Prop}
    (hC : h.get? C = some (excClassObj nm q C N bs bm hdct sn sub ab col dd k0 k1 k2 k3 k5 newId))
    (hi : W.Looks (model prog w) h (typeLookup (.ref C) "__init__") (some (.ref fI))) (hb : ∀ self, W.Looks (model prog w) h (bindSpecial (.ref fI) self) (.ref fI, [self])) (hrest : rest.length ≤ sizeLine)
    (hq : codeAny (model prog w) A (.call (.ref fI) ⟨.ref (h.objs.size + 1) :: rest, kw⟩)
      (fun r s' => match r with | .ok (.ret v) => v = .none ∧ Q (.done (.ret (.ref (h.objs.size + 1)))) s' | .ok _ => False | .error e => E e s')
      ⟨(h.push (W.kdv_tup rest)).push (excO C h.objs.size), g, d, t, os⟩) :
    wpAny (model prog w) A (Builtin.«type.__call__» ⟨.ref C :: rest, kw⟩) Q E ⟨h, g, d, t, os⟩ := by
  repeat (first | with_reducible refine wpAny_loadPart_at hC ?_ | with_reducible refine wpAny_madeBy_exc hC ?_ | wp_step)
  refine codeAny_call_builtin_code (Code.quiet_builtin _ F.quiet) (check_new_kw F hB hC ?_)
  refine new_kw F hB hA hN hC ?_ hrest
  show wpAny _ _ _ _ _ _
  have k : ∀ b o, h.get? b = some o → ((h.push (W.kdv_tup rest)).push (excO C h.objs.size)).get? b = some o := fun b o e => Heap.get?_push_of_some _ (Heap.get?_push_of_some _ e)
  have hC₁ := k _ _ hC
  have hget : ((h.push (W.kdv_tup rest)).push (excO C h.objs.size)).get? (h.objs.size + 1) = some (excO C h.objs.size) := by heap_get
  have hcC : (Value.ref C :: bm).contains (.ref C) = true := by simp
  have i1 := hi.keeps k
  have b1 := (hb (.ref (h.objs.size + 1))).keeps k
  unfold isInstance
  repeat (first | with_reducible refine wpAny_loadPart_at hget ?_ | (with_reducible refine wpAny_isSubtype_exc hC₁ ?_; rw [hcC]) | wp_step)
  show wpAny _ _ (typeLookup (.ref C) _) _ _ _
  refine i1.at ?_
  refine wpAny_holding (wpAny_bind (b1.at ?_))
  refine wpAny_bind (wpAny_call (codeAny_mono hq fun r s' z => ?_))
  rcases r with e | (v | _ | _ | _) <;> first | exact z | exact z.elim | skip
  obtain ⟨rfl, z⟩ := z
  first
    | exact wpAny_pure (wpAny_pure z)
    | (wp_walk; exact z)
theorem call_kw (F : ExcBaseFacts B newId initId bmB) (hB : bm.contains (.type B) = true) (hA : bm.contains (.type "AttributeError") = false) (hN : bm.contains (.type "NameError") = false) {rest : List Value} {kw : List (Str × Value)} {fI : Addr}
    (hC : h.get? C = some (excClassObj nm q C N bs bm hdct sn sub ab col dd k0 k1 k2 k3 k5 newId))
    (hi : W.Looks (model prog w) h (typeLookup (.ref C) "__init__") (some (.ref fI))) (hb : ∀ self, W.Looks (model prog w) h (bindSpecial (.ref fI) self) (.ref fI, [self])) (hrest : rest.length ≤ sizeLine)
    (hq : codeAny (model prog w) (A.under (.builtin "type.__call__" ⟨.ref C :: rest, kw⟩)) (.call (.ref fI) ⟨.ref (h.objs.size + 1) :: rest, kw⟩) (W.InitBack (h.objs.size + 1) R)
      ⟨(h.push (W.kdv_tup rest)).push (excO C h.objs.size), g, d, t, os⟩) :
    codeAny (model prog w) A (.call (.ref C) ⟨rest, kw⟩) R ⟨h, g, d, t, os⟩ := by
  have f1 := tc_lookup
  have f2 := tc_bind (.ref C)
  have hTy : (⟨h, g, d, t, os⟩ : Shared).TypeIs (.ref C) "type" := ⟨_, hC, rfl⟩
  refine codeAny_of_tree ?_
  show wpAny _ _ (callAny (.ref C) _) _ _ _
  repeat (any_goals (first | assumption | with_reducible refine wpAny_loadPart_at hC ?_ | wp_step))
  refine ⟨rfl, ?_⟩
  refine codeAny_call_builtin_at (Code.quiet_builtin _ (by decide +kernel)) entry_typeCall (wpAny_check_type_call_sub hC (type_call_kw F hB hA hN hC hi hb hrest ?_))
  refine codeAny_mono hq fun r s' z => ?_
  rcases r with e | (v | _ | _ | _) <;> exact z
end
section
variable {prog : Program} {w : World} {A : Around} {E : Value → Shared → Prop} {R : Result → Shared → Prop} {hp : Heap} {g : Array GenState} {d : Drawn} {t : Nat} {os : OsState}
theorem exc_osaG {K : W.Frag} {name : Str} {tk : Tok} {v : Value} {x C : Addr} {fv : Array Value} {cd : ClassData}
    (X : K.In hp) (hx : hp.get? x = some { cls := .ref C, data := .fields fv }) (hcd : W.clsIn K C = some cd) (hm : ∀ self, refuseLoop self "__setattr__" cd.mro = pure ()) (ne : cd.mro.isEmpty = false) (hob : cd.mro.contains (.type "object") = true) (hh : cd.hasDict = true) (ha : W.findIn K (.ref C) name = some none)
    (hq : ∀ h' tk' dx, (∀ b o, b ≠ x → hp.get? b = some o → h'.get? b = some o) → hp.objs.size ≤ dx → dx ≠ x → h'.get? x = some { cls := .ref C, dict := some dx, data := .fields fv } →
      h'.Ns1 dx (fun y => if y = name then some v else none) → R (.ok (.ret .none)) ⟨h', g, d, tk', os⟩) :
    codeAny (model prog w) A (.call (.builtin "object.__setattr__") ⟨[.ref x, .str name tk, v], []⟩) R ⟨hp, g, d, t, os⟩ := by
  have I : W.InstAt hp x { cls := .ref C, data := .fields fv } C none := ⟨hx, rfl, rfl, trivial⟩
  have SF := F.store_object
  have hxs : x ≠ hp.objs.size := Nat.ne_of_lt (Heap.lt_size hx)
  have sub : W.Looks (model prog w) hp (isInstance (.ref x) (.type "object")) true := I.type.andThen (W.looks_mroIn X (by unfold W.mroIn; rw [hcd, Option.bind_some, if_neg (by rw [ne]; decide), hob]))
  refine codeAny_call_builtin SF.slot.plain SF.entry (@W.check_slot (model prog w) _ _ ⟨hp, g, d, t, os⟩ "object.__setattr__" "object" "__setattr__" (.ref x) [.str name tk, v] [] _ SF.kind SF.split sub (SF.args (.ref x) (.str name tk) v) ?_)
  have hmr : W.Looks (model prog w) hp (mroOf (.ref C)) cd.mro := (W.looks_clsIn X hcd).andThen .now
  have L3 : W.Looks (model prog w) hp (storeTaker? none) none := .now
  have hcls : W.Looks (model prog w) hp (classData C) cd := W.looks_clsIn X hcd
  rw [W.osa_eq, refuse_eq]
  refine wpAny_bind (wpAny_bind (I.type.at (wpAny_bind (hmr.at ?_))))
  rw [hm]
  refine wpAny_pure (wpAny_bind (I.type.at (wpAny_bind ((W.looks_findIn X ha).at (wpAny_bind (L3.at ?_))))))
  show wpAny _ _ (storeInOwnDict (.ref x) (.ref C) (.str name tk) name v false) _ _ _
  obtain ⟨nm, bs, mro, ns, qn, hd, sn, sb, ab, col, del⟩ := cd
  dsimp only at hh
  subst hh
  unfold storeInOwnDict ownDictForStores
  repeat (first | with_reducible refine store_in_new ?_ ?_ | with_reducible refine wpAny_loadPart_at hx ?_ | with_reducible refine hcls.at ?_ | wp_step)
  · exact ⟨_, #[], _, (Heap.get?_update_ne _ _ _ _ hxs.symm).trans (Heap.get?_push_at rfl rfl), rfl, fun e he => absurd he (by simp), fun _ => rfl⟩
  · intro h' tk' hn' hs
    have hx₁ : (hp.push { cls := .type "dict", data := .dict #[] }).get? x = some { cls := .ref C, data := .fields fv } := Heap.get?_push_of_some _ hx
    refine hq h' tk' hp.objs.size (fun b o hb ho => ?_) (Nat.le_refl _) hxs.symm ?_ hn'
    · exact (hs.2 b (Nat.ne_of_lt (Heap.lt_size ho))).trans ((Heap.get?_update_ne _ _ _ _ hb).trans (Heap.get?_push_of_some _ ho))
    · exact (hs.2 x hxs).trans (Heap.get?_update_self _ hx₁ rfl)
end
end EV
namespace EV
open PySem PySem.W PySem.Calls PyProof.Rows PySem.HandSPX
section
variable {prog : Program} {w : World} {A : Around} {E : Value → Shared → Prop} {s : Shared} {K : Frag} {x D : Addr} {ox : Obj} {od : Option Obj}
theorem findObj_dataD {C : Addr} {name : Str} {a g : Value} (hc : (clsIn K C).isSome = true) (ha : findIn K (.ref C) name = some (some a)) (hg : specialIn K a "__get__" = some (some g)) (ht : takesIn K a = some true) : findObj K C od name = some (.bind g a) := by
  obtain ⟨cd, hc⟩ := Option.isSome_iff_exists.mp hc
  unfold findObj
  rw [hc, Option.bind_some, ha, Option.bind_some]
  cases od <;> simp [hg, ht]
theorem kin_classD {Q : Option Value → Shared → Prop} (hga : findIn K (.ref D) "__getattribute__" = some (some (.builtin "BaseException.__getattribute__"))) (hgt : findIn K (.ref D) "__getattr__" = some none) (hsub : subIn K (.ref D) (.type "BaseException") = some true)
    (hdct : hasDictIn K D = true) (ha : findIn K (.ref D) "__class__" = some (some (.builtin "object.__class__")))
    (hn : specialIn K (.builtin "object.__class__") "__get__" = some (some (.builtin "getset_descriptor.__get__"))) (htk : takesIn K (.builtin "object.__class__") = some true) (hm : mroIn K D (.type "object") = some true)
    (X : K.In s.heap) (I : InstAt s.heap x ox D od) (h : Q (some (.ref D)) { s with toks := s.toks + 1 }) : wpAny (model prog w) A (getAttr? (.ref x) "__class__") Q E s := by
  have hf : findObj K D od "__class__" = some (.bind (.builtin "getset_descriptor.__get__") (.builtin "object.__class__")) := findObj_dataD (by obtain ⟨cd, hc, _⟩ := any_some hdct; rw [hc]; rfl) ha hn htk
  obtain ⟨hp, g, d, t, os⟩ := s
  have L0 := I.type (M := model prog w)
  have L1 := looks_findIn (M := model prog w) X hga
  have L2 := looks_findIn (M := model prog w) X hgt
  have L3 := looks_find (M := model prog w) X I hf
  have sub : Looks (model prog w) hp (isInstance (.ref x) (.type "BaseException")) true := L0.andThen (looks_subIn X hsub)
  have hx0 : (false && onTheHeap (Value.builtin "BaseException.__getattribute__")) = false := rfl
  have hx2 : (Value.builtin "BaseException.__getattribute__" == Value.builtin "object.__getattribute__") = false := by decide +kernel
  have hx1 : (onTheHeap (Value.ref D) && Value.builtin "BaseException.__getattribute__" == Value.builtin "object.__getattribute__") = false := by rw [hx2]; rfl
  unfold getAttr? getAttrBy? getAttrBy
  refine wpAny_bind (wpAny_mkText (wpAny_bind (wpAny_attempt (wpAny_holding (wpAny_bind (L0.at (wpAny_bind (L1.at ?_))))))))
  show wpAny _ _ (if (onTheHeap (Value.ref D) && Value.builtin "BaseException.__getattribute__" == Value.builtin "object.__getattribute__") = true then _ else _) _ _ _
  rw [hx1, if_neg Bool.false_ne_true]
  unfold getAttrByItsOwn hookBefore
  refine wpAny_bind ?_
  rw [if_pos (show onTheHeap (Value.ref D) = true from rfl)]
  refine L2.at ?_
  refine wpAny_bind (wpAny_attempt (wpAny_holding ?_))
  unfold callGetattribute
  rw [hx0, if_neg Bool.false_ne_true]
  unfold boundAndCalled
  rw [PySem.F.excAttr_ValueError.ga.bind (.ref x)]
  refine wpAny_bind (wpAny_pure ?_)
  show wpAny _ _ (call (.builtin "BaseException.__getattribute__") [.ref x, .str "__class__" t]) _ _ _
  refine wpAny_call (codeAny_call_builtin PySem.F.excAttr_ValueError.ga.plain PySem.F.entry_bexc_ga ?_)
  refine @check_slot (model prog w) _ _ ⟨hp, g, d, t + 1, os⟩ "BaseException.__getattribute__" "BaseException" "__getattribute__" (.ref x) [.str "__class__" t] [] _ (by decide +kernel) (by decide +kernel) sub (PySem.F.args_bexc_ga (.ref x) (.str "__class__" t)) ?_
  unfold Builtin.«object.__getattribute__»
  refine wpAny_bind (wpAny_of_eq (a := ((Value.ref x : Value), [Value.str "__class__" t])) (by first | rfl | (simp only [slotArgs]; rfl)) ?_)
  refine wpAny_bind (wpAny_pure (wpAny_bind (L0.at (wpAny_bind (L3.at ?_)))))
  show wpAny _ _ (holding [Value.builtin "object.__class__"] (call (.builtin "getset_descriptor.__get__") [.builtin "object.__class__", .ref x, .ref D]) >>= ret) _ _ _
  refine wpAny_bind (wpAny_holding (wpAny_call (class_get (s := ⟨hp, g, d, t + 1, os⟩) (ox := ox) (od := od) X I hm ?_)))
  refine wpAny_pure ?_
  show wpAny _ _ (handedOut (.ref D)) _ _ _
  rw [handedOut_of (v := .ref D) rfl]
  first
    | exact wpAny_pure (wpAny_pure h)
    | exact wpAny_pure h
    | exact wpAny_pure (wpAny_bind (wpAny_pure (wpAny_pure h)))
theorem kitx_excD (hga : findIn K (.ref D) "__getattribute__" = some (some (.builtin "BaseException.__getattribute__"))) (hgt : findIn K (.ref D) "__getattr__" = some none) (hsub : subIn K (.ref D) (.type "BaseException") = some true) (hdct : hasDictIn K D = true) (ha : findIn K (.ref D) "__class__" = some (some (.builtin "object.__class__")))
    (hn : specialIn K (.builtin "object.__class__") "__get__" = some (some (.builtin "getset_descriptor.__get__"))) (htk : takesIn K (.builtin "object.__class__") = some true) (hm : mroIn K D (.type "object") = some true) :
    KitX K (.ref x) (.ref D) (fun h => InstAt h x ox D od) where
  ty := fun _ _ _ I => I.type
  it := fun _ _ X _ => by
    obtain ⟨cdD, hcD, _⟩ := any_some hdct
    unfold clsIn at hcD
    split at hcD
    · rename_i c' d' cd' sl' ho
      intro A' Q' E' s' k q
      unfold isType loadHead
      exact wpAny_bind (wpAny_loadPart (k _ _ (X _ _ ho)) (wpAny_pure q))
    · cases hcD
  ne := fun h tp dd its n sl X htp => by
    obtain ⟨cdD, hcD, _⟩ := any_some hdct
    refine Bool.eq_false_iff.mpr fun q => ?_
    have e : D = tp := Value.ref.inj (beq_iff_eq.mp q)
    subst e
    unfold clsIn at hcD
    split at hcD
    · rename_i c' d' cd' sl' ho
      have z := (X _ _ ho).symm.trans htp
      cases z
    · cases hcD
  ca := fun X I k => kin_classD hga hgt hsub hdct ha hn htk hm X I k
end
end EV
set_option maxHeartbeats 4000000
namespace LX
open PySem PySem.Spec PyProof.Rows L2 C8 SX
structure XC (K : PySem.W.Frag) (C : Addr) : Prop where
  obj : ∃ (tail bmF : List Value) (B newId initId : String), ExcBaseFacts B newId initId bmF ∧ PySem.W.excInitIn K C tail newId = true ∧ tail.contains (.type B) = true ∧ tail.contains (.type "AttributeError") = false ∧ tail.contains (.type "NameError") = false ∧
    tail.contains (.type "object") = true ∧ ∀ self, PySem.refuseLoop self "__setattr__" tail = pure ()
  hd : PySem.W.hasDictIn K C = true
  sa : PySem.W.findIn K (.ref C) "__setattr__" = some (some (.builtin "object.__setattr__"))
  ga : PySem.W.findIn K (.ref C) "__getattribute__" = some (some (.builtin "BaseException.__getattribute__"))
  gg : PySem.W.findIn K (.ref C) "__getattr__" = some none
  exC : PySem.W.subIn K (.ref C) (.type "BaseException") = some true
  tyC : PySem.W.typeIn K (.ref C) = some (.type "type")
  kC : PySem.W.keepIn K (.ref C) = true
  ha : PySem.W.findIn K (.ref C) "__class__" = some (some (.builtin "object.__class__"))
  hn : PySem.W.specialIn K (.builtin "object.__class__") "__get__" = some (some (.builtin "getset_descriptor.__get__"))
  ht : PySem.W.takesIn K (.builtin "object.__class__") = some true
  hm : PySem.W.mroIn K C (.type "object") = some true
def veT : List Value := [.type "ValueError", .type "Exception", .type "BaseException", .type "object"]
def keT : List Value := [.type "KeyError", .type "LookupError", .type "Exception", .type "BaseException", .type "object"]
theorem veT_pass (self : Value) : PySem.refuseLoop self "__setattr__" veT = pure () := HandSPX.refsVE_pass self veT (by decide +kernel)
theorem keT_pass (self : Value) : PySem.refuseLoop self "__setattr__" keT = pure () := by kernel_rfl
theorem XC.ve {K : PySem.W.Frag} {C : Addr} (q : PySem.W.excInitIn K C veT "ValueError.__new__" = true) (hd : PySem.W.hasDictIn K C = true) (sa : PySem.W.findIn K (.ref C) "__setattr__" = some (some (.builtin "object.__setattr__")))
    (ga : PySem.W.findIn K (.ref C) "__getattribute__" = some (some (.builtin "BaseException.__getattribute__"))) (gg : PySem.W.findIn K (.ref C) "__getattr__" = some none) (exC : PySem.W.subIn K (.ref C) (.type "BaseException") = some true) (tyC : PySem.W.typeIn K (.ref C) = some (.type "type"))
    (kC : PySem.W.keepIn K (.ref C) = true) (ha : PySem.W.findIn K (.ref C) "__class__" = some (some (.builtin "object.__class__"))) (hn : PySem.W.specialIn K (.builtin "object.__class__") "__get__" = some (some (.builtin "getset_descriptor.__get__"))) (ht : PySem.W.takesIn K (.builtin "object.__class__") = some true)
    (hm : PySem.W.mroIn K C (.type "object") = some true) : XC K C :=
  ⟨⟨veT, _, _, _, _, PySem.F.excBase_ValueError, q, by decide +kernel, by decide +kernel, by decide +kernel, by decide +kernel, veT_pass⟩, hd, sa, ga, gg, exC, tyC, kC, ha, hn, ht, hm⟩
theorem XC.ke {K : PySem.W.Frag} {C : Addr} (q : PySem.W.excInitIn K C keT "LookupError.__new__" = true) (hd : PySem.W.hasDictIn K C = true) (sa : PySem.W.findIn K (.ref C) "__setattr__" = some (some (.builtin "object.__setattr__")))
    (ga : PySem.W.findIn K (.ref C) "__getattribute__" = some (some (.builtin "BaseException.__getattribute__"))) (gg : PySem.W.findIn K (.ref C) "__getattr__" = some none) (exC : PySem.W.subIn K (.ref C) (.type "BaseException") = some true) (tyC : PySem.W.typeIn K (.ref C) = some (.type "type"))
    (kC : PySem.W.keepIn K (.ref C) = true) (ha : PySem.W.findIn K (.ref C) "__class__" = some (some (.builtin "object.__class__"))) (hn : PySem.W.specialIn K (.builtin "object.__class__") "__get__" = some (some (.builtin "getset_descriptor.__get__"))) (ht : PySem.W.takesIn K (.builtin "object.__class__") = some true)
    (hm : PySem.W.mroIn K C (.type "object") = some true) : XC K C :=
  ⟨⟨keT, _, _, _, _, PySem.F.excBase_LookupError, q, by decide +kernel, by decide +kernel, by decide +kernel, by decide +kernel, keT_pass⟩, hd, sa, ga, gg, exC, tyC, kC, ha, hn, ht, hm⟩
theorem XC.data {K : PySem.W.Frag} {C : Addr} (T : XC K C) : ∃ (nm q : Str) (N : Addr) (bs bm : List Value) (sn : List Str) (sub : List Value) (ab : Bool) (col : Option Bool) (dd : Option Addr) (k0 k1 k2 k3 k5 : Option Value) (B newId initId : String) (bmF : List Value),
    ExcBaseFacts B newId initId bmF ∧ K.lookup C = some (excClassObj nm q C N bs bm true sn sub ab col dd k0 k1 k2 k3 k5 newId) ∧ bm.contains (.type B) = true ∧ bm.contains (.type "AttributeError") = false ∧ bm.contains (.type "NameError") = false ∧
    (∀ self, PySem.refuseLoop self "__setattr__" (.ref C :: bm) = pure ()) ∧ (Value.ref C :: bm).contains (.type "object") = true := by
  obtain ⟨tail, bmF, B, newId, initId, F, q, hB, hA, hN, hO, hp⟩ := T.obj
  have hdct := T.hd
  unfold PySem.W.excInitIn at q
  unfold PySem.W.hasDictIn PySem.W.clsIn at hdct
  split at q
  · rename_i dd cd sl ho
    rw [ho] at hdct
    split at q
    · rename_i C' bm k0 k1 k2 k3 n k5 hm hs
      simp only [Bool.and_eq_true, beq_iff_eq, Bool.not_eq_true'] at q
      obtain ⟨⟨⟨rfl, rfl⟩, hdel⟩, ht⟩ := q
      obtain ⟨nm, bs, mro, ns, qn, hd, sn, sub, ab, col, del⟩ := cd
      have hdct : hd = true := hdct
      dsimp only at hm hdel
      subst hm hdel hdct
      have hsl : sl = #[k0, k1, k2, k3, some (.builtin n), k5] := by
        obtain ⟨l⟩ := sl
        simp only at hs
        rw [hs]
      subst hsl
      have hT : ∀ X : String, bm.contains (.type X) = tail.contains (.type X) := fun X => PySem.W.excTail_contains X _ ht
      refine ⟨nm, qn, ns, bs, bm, sn, sub, ab, col, dd, k0, k1, k2, k3, k5, B, n, initId, bmF, F, ho, (hT _).trans hB, (hT _).trans hA, (hT _).trans hN, fun self => ?_, ?_⟩
      · exact PySem.W.excTail_pass self (hp self) _ ht
      · rw [List.contains_cons, hT, hO, Bool.or_true]
    · cases q
  · cases q
section
variable {X : Cx} {pins : List (Addr × Obj)} {σ : L2.St} {H : Hp} {s : Shared} {a C dx : Addr} {f : Str} {y : V} {u : Value} {Q : Unit → Shared → Prop} {E : Value → Shared → Prop} {A : Around}
theorem ost_newG (T : XC X.K C) (I : Inv X pins σ H s) (e : H a = some (exo a C none)) (hno : PySem.W.findIn X.K (.ref C) f = some none) (ry : RelV y u)
    (h : ∀ dx s', H dx = none → dx ≠ a → Inv X pins σ (upd (upd H dx (exd dx [(f, y)])) a (exo a C (some dx))) s' → Q () s') : wpAny (model X.prog X.w) A (setAttr (.ref a) f u) Q E s := by
  obtain ⟨nm, q, N, bs, bm, sn, sub, ab, col, dd, k0, k1, k2, k3, k5, B, newId, initId, bmF, F, hC, hB, hA, hN, hp0, hob⟩ := T.data
  have hcl : PySem.W.clsIn X.K C = some { name := nm, bases := bs, mro := .ref C :: bm, ns := N, qualname := q, hasDict := true, slotNames := sn, subclasses := sub, abstract := ab, collection := col, hasDel := false } := by unfold PySem.W.clsIn; rw [hC] <;> rfl
  obtain ⟨t1, ho⟩ := exo_at I.hok e
  obtain ⟨hp, g, d, t, os⟩ := s
  refine PySem.W.set_plain I.kIn (ox := { cls := .ref C, dict := none, data := .fields #[.ref t1, .none, .none, .none, .bool false, .none] }) (od := none) ⟨ho, rfl, rfl, trivial⟩ T.sa ?_
  refine EV.exc_osaG I.kIn ho hcl hp0 rfl hob rfl hno (fun h' tk' dx k dn dne hx hn => ?_)
  have hnd : H dx = none := I.hok.fresh dn
  have nd : ∀ {b : Addr} {o : Obj}, hp.get? b = some o → b ≠ dx := fun {b o} q => Nat.ne_of_lt (Nat.lt_of_lt_of_le (Heap.lt_size q) dn)
  have na : ∀ {b : Addr}, H b = none → b ≠ a := fun {b} n z => by
    rw [z, e] at n
    cases n
  have Un1 : Un X.fs [] H (upd (upd H dx (exd dx [(f, y)])) a (exo a C (some dx))) hp h' := {
    keep := fun b o q n _ _ => k b o (na n) q
    slot := fun b o q n _ _ => ⟨o.slots, k b o (na n) q⟩
    free := fun b o q n _ => by rw [upd_ne (na n), upd_ne (nd q)]; exact n
    there := fun b o q _ => by
      by_cases hb : b = a
      · exact ⟨_, by rw [hb]; exact hx⟩
      · exact ⟨o, k b o hb q⟩
    tups := fun b xs q => by rw [upd_ne (at_ne e q exo_tup), upd_ne (ne_of_none q hnd)]; exact q
    frzs := fun b o v q => by rw [upd_ne (at_ne e q exo_frz), upd_ne (ne_of_none q hnd)]; exact q
    tbls := fun b ps q => ⟨#[], by rw [upd_ne (at_ne e q exo_tbl), upd_ne (ne_of_none q hnd), q]; simp⟩ }
  refine h dx _ hnd dne (I.un (t' := tk') Un1 fun b o q => ?_)
  by_cases hb : b = a
  · subst hb
    rw [upd_same] at q
    cases q
    exact exo_ok hx
  · rw [upd_ne hb] at q
    by_cases hd : b = dx
    · subst hd
      rw [upd_same] at q
      cases q
      exact exd_ok hn (relO_put (fs := []) ry fun g => True.intro)
    · rw [upd_ne hd] at q
      exact (I.hok b o q).stay (fun c v hc z => k c v (by
          rcases hc with hc | hc
          · rw [hc]
            exact hb
          · exact at_ne e hc exo_own) z)
        (fun c hc => by rw [upd_ne (at_ne e hc exo_own), upd_ne (ne_of_none hc hnd)]; exact hc) (fun c xs hc => by rw [upd_ne (at_ne e hc exo_tup), upd_ne (ne_of_none hc hnd)]; exact hc)
end
def tOstG (K : PySem.W.Frag) (f : Str) (to te : TE) : TS := fun D σ H => te σ H fun y H1 => to σ H1 fun x H2 => ∃ a C : Addr, x = .ref a ∧ XC K C ∧ PySem.W.findIn K (.ref C) f = some none ∧
  H2 a = some (exo a C none) ∧ ∀ dx, H2 dx = none → dx ≠ a → D.nx σ (upd (upd H2 dx (exd dx [(f, y)])) a (exo a C (some dx)))
section
variable {X : Cx} {o e : Expr} {es : List Expr} {to te : TE} {ta : TA} {f : Str} {p p' p1 p2 pos : Pos}
theorem ps_ostG (ho : PE X o to) (he : PE X e te) (hs : swapsWith e (some (.Attribute o f p')) pos.line X.env = pure false := by rfl) : PS X (.Assign [.Attribute o f p'] e pos) (tOstG X.K f to te) := by
  refine ⟨fun pins s σ H D I h => ?_⟩
  refine plainObj_wpAny_Assign_Attribute (thn (he.run pins s σ H _ I h) fun v s1 ⟨y, H1, I1, r1, q1⟩ => thn (ho.run pins s1 σ H1 _ I1 q1) fun u s2 ⟨x, H2, I2, r2, a, C, ex, T, hno, ea, q⟩ => ?_) hs
  subst ex
  obtain rfl : u = Value.ref a := r2
  exact ost_newG T I2 ea hno r1 fun dx s' n ne J => ⟨σ, _, J, q dx n ne⟩
theorem pmk_xc {CX : CXT} {x : Str} {C fI : Addr} {k : Nat} {fd : FuncData} {ps : List Str} {sp : Sp} {ds : List Value} {dvs : List V} (T : XC X.K C) (iC : PySem.W.findIn X.K (.ref C) "__init__" = some (some (.ref fI))) (tI : PySem.W.typeIn X.K (.ref fI) = some (.type "function"))
    (F1 : FnOk X.prog X.w X.K X.mg X.base CX k fI fd ps sp) (hr : Room (k + 1) X.A) (hb : Binds X.K fd ps ds) (hd : Vals dvs ds) (hx : Passes CX X (fun _ _ _ => False)) (hg : Gl X x) (hm : X.mg x = some (.ref C)) (ha : PA X (e :: es) ta)
    (hdb : (x == ("__debug__" : Str)) = false := by decide) (he : starEach (e :: es) X.env = (false, eval e X.env) :: starEach es X.env := by rfl) (hpl : (backTo pos (starEach es X.env)).any (·.1) = false := by rfl) :
    PMk X (.Call (.Name x p) (e :: es) [] pos) (tMkO C sp dvs ta) := by
  intro pins s σ H Q I h
  obtain ⟨nm, q, N, bs, bm, sn, sub, ab, col, dd, k0, k1, k2, k3, k5, B, newId, initId, bmF, F, hC, hB, hA, hN, hp0, hob⟩ := T.data
  refine wpAny_Call_Name_kw (ld_glob I hg hm ?_ hdb)
  refine PySem.W.callWith_K (h₀ := X.base) I.ok.mod.kin T.kC (thn (ha.run pos pins s σ H _ I h) fun us s1 ⟨vs, H1, I1, r1, hz, q1⟩ => ⟨I1.kIn, ?_⟩) he hpl
  show wpAny _ _ (call (.ref C) us) _ _ _
  obtain ⟨hp, g, dr, tk, os⟩ := s1
  have hsz : hp.objs.size ≤ hp.objs.size + 1 := Nat.le_succ _
  have hn : H1 (hp.objs.size + 1) = none := I1.hok.fresh hsz
  have hq := q1 (hp.objs.size + 1) hn
  have kk : ∀ b o, hp.get? b = some o → ((hp.push (PySem.W.kdv_tup us)).push (PySem.HandSPX.excO C hp.objs.size)).get? b = some o := fun b o e => Heap.get?_push_of_some _ (Heap.get?_push_of_some _ e)
  have hget : ((hp.push (PySem.W.kdv_tup us)).push (PySem.HandSPX.excO C hp.objs.size)).get? (hp.objs.size + 1) = some (PySem.HandSPX.excO C hp.objs.size) := by heap_get
  have I2 : Inv X pins σ (upd H1 (hp.objs.size + 1) (exo (hp.objs.size + 1) C none)) ⟨(hp.push (PySem.W.kdv_tup us)).push (PySem.HandSPX.excO C hp.objs.size), g, dr, tk, os⟩ :=
    I1.laid (t' := tk) (a := hp.objs.size + 1) (o := exo (hp.objs.size + 1) C none) (h' := (hp.push (PySem.W.kdv_tup us)).push (PySem.HandSPX.excO C hp.objs.size)) kk hsz (exo_ok hget)
  have r2 : Vals (V.ref (hp.objs.size + 1) :: (vs ++ dvs)) (Value.ref (hp.objs.size + 1) :: (us ++ ds)) := .cons rfl (r1.append hd)
  have hl : (Value.ref (hp.objs.size + 1) :: us ++ ds).length = ps.length := by
    have e := r2.length
    rw [F1.len _ _ _ _ hq] at e
    exact e.symm
  have hus : us.length ≤ sizeLine := by
    rw [← Paired.length r1, sizeLine_eq]
    omega
  refine wpAny_call (EV.call_kw (kw := []) F hB hA hN (I1.kIn _ _ hC) (PySem.W.looks_findIn I1.kIn iC) (fun self => PySem.W.bind_fn I1.kIn self tI) hus
    (codeAny_mono (F1.run _ X.stack _ _ ⟨Value.ref (hp.objs.size + 1) :: us, []⟩ (Value.ref (hp.objs.size + 1) :: (us ++ ds)) _ _ (fun _ _ _ => False) (hr.make C us []) (I2.env0.make C us []) (hb _ (Value.ref (hp.objs.size + 1) :: us) I2.kIn hl) r2 hq) fun r s' hq' => ?_))
  cases r with
  | error er => exact hx pins σ _ _ er s' I2 hq'
  | ok fl =>
    cases fl with
    | ret u =>
      obtain ⟨v, H2, os2, bare2, un2, hok2, rv, ev, d, fs, ea, ed, hd1, q2⟩ := hq'
      subst ev
      obtain ⟨h2, g2, d2, t2, os'⟩ := s'
      exact ⟨rv, mk_end (raises_own T.exC T.tyC) I1 hsz kk un2 hok2 os2 bare2 ea ed hd1 q2⟩
    | next => exact False.elim hq'
    | brk => exact False.elim hq'
    | cont => exact False.elim hq'
theorem pmk_own0 {C : Addr} {bmB : List Value} {B newId initId : String} {x : Str} {p pos : Pos} (F : ExcBaseFacts B newId initId bmB) (q : PySem.W.excIn X.K C bmB newId = true) (gC : X.mg x = some (.ref C)) (kC : PySem.W.keepIn X.K (.ref C) = true) (r : Raises X (.ref C)) (hg : Gl X x)
    (hdb : (x == ("__debug__" : Str)) = false := by decide) : PMk X (.Call (.Name x p) [] [] pos) (fun σ H Q => Q (.ref C) none H) := by
  intro pins s σ H Q I h
  refine wpAny_Call_Name_kw (ld_glob I hg gC ?_ hdb)
  refine PySem.W.callWith_K0 I.kIn kC ?_
  show wpAny _ _ (call (.ref C) []) _ _ _
  obtain ⟨bm, N, nm, qn, bs, hdct, sn, sub, ab, col, dd, k0, k1, k2, k3, k5, mN, hC, hN, hni, T⟩ := exc_obj I.kIn q
  refine wpAny_call_exc_subT F T hC hN hni (fun h' e hm => ?_) (by show 0 ≤ sizeLine; exact Nat.zero_le _)
  exact mk_of I hm r h (I.hok.gone hm.new)
end
def rIsX (K : PySem.W.Frag) (a : Addr) (cls : Value) (d : Option Addr) : List V → Hp → VK → Prop := fun xs H Q => ∃ (D : Addr) (c : V) (cv : Value) (b : Bool), cls = .ref D ∧ ExcC K D ∧ xs = [.ref a, c] ∧ (∀ u, RelV c u → u = cv) ∧ PySem.W.kitOne K (.ref D) cv = some b ∧
  (d = none ∨ ∃ dd fs, d = some dd ∧ H dd = some (.xd fs)) ∧ Q (.bl b) H
theorem call_isX {X : Cx} {a : Addr} {cls : Value} {d : Option Addr} {oe : Obj} {pn : List (Addr × Obj)} (hz : Zc cls d oe) (hf : ∃ vs, oe.data = .fields vs) : CallR (X.suite a ((a, oe) :: pn)) (.builtin "isinstance") (rIsX X.K a cls d) := by
  intro pins s σ H xs us Q I r h
  obtain ⟨D, c, cv, b, ecls, C, rfl, hcv, e, hd, q⟩ := h
  subst ecls
  cases r with
  | cons rx rr =>
    cases rr with
    | cons rt rr =>
      cases rr
      cases rx
      have ec := hcv _ rt
      subst ec
      obtain ⟨hget, _⟩ := I.pin (a, oe) (List.mem_append.mpr (.inl List.mem_cons_self))
      obtain ⟨vs, hv⟩ := hf
      have J : ∃ od : Option Obj, PySem.W.InstAt s.heap a oe D od := by
        obtain ⟨oc, od, oda, osl⟩ := oe
        obtain ⟨h1, h2⟩ := hz
        dsimp only at h1 h2 hv
        subst h1 h2 hv
        rcases hd with rfl | ⟨dd, fs, rfl, hdd⟩
        · exact ⟨none, hget, rfl, rfl, trivial⟩
        · have hx : ObjOk X.prog X.w H s.heap dd (.xd fs) := I.hok dd _ hdd
          obtain ⟨mA, hns, _⟩ := hx
          obtain ⟨o, _, _, ho, _⟩ := hns
          exact ⟨some o, hget, rfl, rfl, ho⟩
      obtain ⟨od, J⟩ := J
      exact PySem.W.kia_one (EV.kitx_excD (od := od) C.hg C.hk C.hs C.hd C.ha C.hn C.ht C.hm) I.kIn J e (fun z => nomatch z) fun tk => ⟨.bl b, H, I.kept (t' := tk) fun _ _ z => z, rfl, q⟩
theorem XC.exc {K : PySem.W.Frag} {C : Addr} (T : XC K C) : ExcC K C := ⟨T.ga, T.gg, T.exC, T.hd, T.ha, T.hn, T.ht, T.hm⟩
theorem XC.xf {K : PySem.W.Frag} {C : Addr} (T : XC K C) : XfC K C := ⟨T.ga, T.gg, T.exC, T.hd⟩
theorem XC.raises {X : Cx} {C : Addr} (T : XC X.K C) : Raises X (.ref C) := raises_own T.exC T.tyC
theorem XC.exm {K : PySem.W.Frag} {C : Addr} {cls : Value} {b : Bool} (T : XC K C) (h : PySem.W.subIn K cls (.ref C) = some b) : PySem.W.exmOne K cls (.ref C) = some b := PySem.W.exm_ref T.exC T.hd T.tyC h
end LX
set_option maxHeartbeats 4000000
namespace LX
open PySem PySem.Spec PyProof.Rows L2 C8 SX
section
variable {P : Program} {w : World} {K : PySem.W.Frag} {mg : Str → Option Value} {base : Heap}
theorem fnX {x qual : Str} {st : Stmt} {f : Addr} {fd : FuncData} {N ps : List Str} {k : Nat} {sp : Sp} (F : C8.Fun K x qual st f fd) (S : FnScope N ps (C8.fnScope st)) (len : ∀ vs H Q E, sp vs H Q E → vs.length = ps.length)
    (hbody : ∀ (cdv : Value) (A : Around) (outer : List Env) (s : Shared) (H : Hp) (vs : List V) (Q : VK) (E : XK), Room k (A.deeper (envOfC qual (C8.fnScope st) s.heap.objs.size f cdv)) → sp vs H Q E →
      ∃ t, PSs (cxOf (L2.CX P w) P w K mg base N qual (C8.fnScope st) f cdv A outer s H E) (C8.fnBody st) t ∧ t { nx := fun _ H' => Q .non H', rt := Q } (L2.start N vs) H) : FnOk P w K mg base (L2.CX P w) (k + 1) f fd ps sp := by
  obtain ⟨oc, od, dV, kV, doc, pm, an, cdv, ct, osl, rfl, lk, hcd⟩ := F.ex
  exact fn_of lk hcd S len fun A outer s H vs Q E hr hsp => hbody cdv A outer s H vs Q E hr hsp
structure CalX (P : Program) (w : World) (K : PySem.W.Frag) (mg : Str → Option Value) (base : Heap) (k : Nat) (x : Str) (sp : Sp) : Prop where
  ex : ∃ (f : Addr) (fd : FuncData) (ps : List Str), FnOk P w K mg base (L2.CX P w) k f fd ps sp ∧ mg x = some (.ref f) ∧ PySem.W.keepIn K (.ref f) = true ∧ Binds K fd ps []
structure MetX (P : Program) (w : World) (K : PySem.W.Frag) (mg : Str → Option Value) (base : Heap) (k : Nat) (C : Addr) (m : Str) (sp : Sp) : Prop where
  ex : ∃ (f : Addr) (fd : FuncData) (ps : List Str), Cls K C ∧ Meth K C m f ∧ FnOk P w K mg base (L2.CX P w) k f fd ps sp ∧ Binds K fd ps []
structure MakX (P : Program) (w : World) (K : PySem.W.Frag) (mg : Str → Option Value) (base : Heap) (k : Nat) (x : Str) (C : Addr) (sp : Sp) : Prop where
  ex : ∃ (f : Addr) (fd : FuncData) (ps : List Str), Mk K C f ∧ FnOk P w K mg base (L2.CX P w) k f fd ps sp ∧ mg x = some (.ref C) ∧ Binds K fd ps []
structure RaiX (P : Program) (w : World) (K : PySem.W.Frag) (mg : Str → Option Value) (base : Heap) (k : Nat) (x : Str) (C : Addr) (sp : Sp) : Prop where
  ex : ∃ (f : Addr) (fd : FuncData) (ps : List Str), XC K C ∧ PySem.W.findIn K (.ref C) "__init__" = some (some (.ref f)) ∧ PySem.W.typeIn K (.ref f) = some (.type "function") ∧ FnOk P w K mg base C8.CX0 k f fd ps sp ∧ mg x = some (.ref C) ∧ Binds K fd ps []
theorem calX {x : Str} {st : Stmt} {f : Addr} {fd : FuncData} {N ps : List Str} {k : Nat} {sp : Sp} (F : Def K mg x st f fd) (b : Binds K fd ps []) (S : FnScope N ps (C8.fnScope st)) (len : ∀ vs H Q E, sp vs H Q E → vs.length = ps.length)
    (hbody : ∀ (cdv : Value) (A : Around) (outer : List Env) (s : Shared) (H : Hp) (vs : List V) (Q : VK) (E : XK), Room k (A.deeper (envOfC x (C8.fnScope st) s.heap.objs.size f cdv)) → sp vs H Q E →
      ∃ t, PSs (cxOf (L2.CX P w) P w K mg base N x (C8.fnScope st) f cdv A outer s H E) (C8.fnBody st) t ∧ t { nx := fun _ H' => Q .non H', rt := Q } (L2.start N vs) H) : CalX P w K mg base (k + 1) x sp :=
  ⟨f, fd, ps, fnX F.fn S len hbody, F.mgf, F.kp, b⟩
theorem metX {m qual : Str} {C : Addr} {st : Stmt} {f : Addr} {fd : FuncData} {N ps : List Str} {k : Nat} {sp : Sp} (c : Cls K C) (me : Meth K C m f) (F : C8.Fun K m qual st f fd) (b : Binds K fd ps []) (S : FnScope N ps (C8.fnScope st)) (len : ∀ vs H Q E, sp vs H Q E → vs.length = ps.length)
    (hbody : ∀ (cdv : Value) (A : Around) (outer : List Env) (s : Shared) (H : Hp) (vs : List V) (Q : VK) (E : XK), Room k (A.deeper (envOfC qual (C8.fnScope st) s.heap.objs.size f cdv)) → sp vs H Q E →
      ∃ t, PSs (cxOf (L2.CX P w) P w K mg base N qual (C8.fnScope st) f cdv A outer s H E) (C8.fnBody st) t ∧ t { nx := fun _ H' => Q .non H', rt := Q } (L2.start N vs) H) : MetX P w K mg base (k + 1) C m sp :=
  ⟨f, fd, ps, c, me, fnX F S len hbody, b⟩
theorem makX {x qual : Str} {C : Addr} {st : Stmt} {f : Addr} {fd : FuncData} {N ps : List Str} {k : Nat} {sp : Sp} (M : Mk K C f) (hm : mg x = some (.ref C)) (F : C8.Fun K "__init__" qual st f fd) (b : Binds K fd ps []) (S : FnScope N ps (C8.fnScope st)) (len : ∀ vs H Q E, sp vs H Q E → vs.length = ps.length)
    (hbody : ∀ (cdv : Value) (A : Around) (outer : List Env) (s : Shared) (H : Hp) (vs : List V) (Q : VK) (E : XK), Room k (A.deeper (envOfC qual (C8.fnScope st) s.heap.objs.size f cdv)) → sp vs H Q E →
      ∃ t, PSs (cxOf (L2.CX P w) P w K mg base N qual (C8.fnScope st) f cdv A outer s H E) (C8.fnBody st) t ∧ t { nx := fun _ H' => Q .non H', rt := Q } (L2.start N vs) H) : MakX P w K mg base (k + 1) x C sp :=
  ⟨f, fd, ps, M, fnX F S len hbody, hm, b⟩
theorem raiX {x qual : Str} {C : Addr} {st : Stmt} {f : Addr} {fd : FuncData} {N ps : List Str} {k : Nat} {sp : Sp} (T : XC K C) (iC : PySem.W.findIn K (.ref C) "__init__" = some (some (.ref f))) (tI : PySem.W.typeIn K (.ref f) = some (.type "function")) (hm : mg x = some (.ref C)) (F : C8.Fun K "__init__" qual st f fd) (b : Binds K fd ps []) (S : FnScope N ps (C8.fnScope st)) (len : ∀ vs H Q E, sp vs H Q E → vs.length = ps.length)
    (hbody : ∀ (cdv : Value) (A : Around) (outer : List Env) (s : Shared) (H : Hp) (vs : List V) (Q : VK) (E : XK), Room k (A.deeper (envOfC qual (C8.fnScope st) s.heap.objs.size f cdv)) → sp vs H Q E →
      ∃ t, PSs (cxOf C8.CX0 P w K mg base N qual (C8.fnScope st) f cdv A outer s H E).nox (C8.fnBody st) t ∧ t { nx := fun _ H' => Q .non H', rt := Q } (L2.start N vs) H) : RaiX P w K mg base (k + 1) x C sp :=
  ⟨f, fd, ps, T, iC, tI, fn0 F S len hbody, hm, b⟩
end
def tMethS (C : Addr) (m : Str) (sp : Sp) (E : L2.St → XK) (ta : TE) (t : TA) : TE := fun σ H Q => ta σ H fun x H1 => ∃ a dx fs, x = .ref a ∧ H1 a = some (.ins C dx fs) ∧ fs.lookup m = none ∧ t σ H1 fun vs H2 => sp (x :: vs) H2 Q (E σ)
def tMakeS (C : Addr) (sp : Sp) (E : L2.St → XK) (t : TA) : TE := fun σ H Q => t σ H fun vs H1 => ∀ x dx, H1 x = none → H1 dx = none → dx ≠ x → sp (.ref x :: vs) (upd (upd H1 dx (.own x)) x (.ins C dx [])) (fun v H2 => v = .non ∧ Q (.ref x) H2) (E σ)
section
variable {X : Cx} {k j : Nat} {f C : Addr} {sp : Sp} {W : WX} {x m : Str} {p pos apos : Pos} {e o : Expr} {es : List Expr} {ta : TE} {t : TA}
theorem pe_cX (c : CalX X.prog X.w X.K X.mg X.base k x sp) (tk : Takes X W) (hr : Room j X.A) (hk : k ≤ j) (hg : Gl X x) (ha : PA X (e :: es) t) (hdb : (x == ("__debug__" : Str)) = false := by decide)
    (he : starEach (e :: es) X.env = (false, eval e X.env) :: starEach es X.env := by rfl) (hpl : (backTo pos (starEach es X.env)).any (·.1) = false := by rfl) : PE X (.Call (.Name x p) (e :: es) [] pos) (tCallS sp (WE W) t) := by
  obtain ⟨f, fd, ps, F, hm, kp, b⟩ := c.ex
  exact pe_callS F (hr.mono hk) hg hm kp b (fun σ => passAt tk σ) ha hdb he hpl
theorem pe_mtX {pl : Sem Bool} (c : MetX X.prog X.w X.K X.mg X.base k C m sp) (tk : Takes X W) (hr : Room j X.A) (hk : k ≤ j) (he : PE X o ta) (ha : PA X (e :: es) t)
    (hst : starEach (e :: es) X.env = (false, eval e X.env) :: starEach es X.env := by rfl) (hpl : (backTo pos (starEach es X.env)).any (·.1) = false := by rfl)
    (ht : eval (.Call (.Attribute o m apos) (e :: es) [] pos) X.env = (do
      let ov ← eval o X.env
      standAt apos.atName
      let (f, first) ← holding [ov] (getMethod ov m pl)
      callWith pos f first (backTo pos (starEach (e :: es) X.env)) (backToKw pos (keywordEach [] X.env))) := by rfl) :
    PE X (.Call (.Attribute o m apos) (e :: es) [] pos) (tMethS C m sp (WE W) ta t) := by
  obtain ⟨f, fd, ps, cl, hm, F, hb⟩ := c.ex
  refine ⟨fun pins s σ H Q I h => ?_⟩
  refine PySem.W.methodCall_KW (pl := pl) (thn (he.run pins s σ H _ I h) fun u s1 ⟨x, H1, I1, rx, a, dx, fs, ex, ea, l, q⟩ => ?_) ht
  subst ex
  obtain rfl : u = Value.ref a := rx
  refine getmeth_ok I1 ea cl hm l ?_
  refine PySem.W.callWith_K (first := [.ref a]) (h₀ := X.base) I.ok.mod.kin hm.kp (thn (ha.run pos pins s1 σ H1 _ I1 q) fun us s2 ⟨vs, H2, I2, r, q2⟩ => ⟨I2.kIn, ?_⟩) hst hpl
  exact run_fnS (us := .ref a :: us) (vs := .ref a :: vs) F (hr.mono hk) hb (passAt tk σ) I2 (.cons rfl r) q2
theorem pe_mkX (c : MakX X.prog X.w X.K X.mg X.base k x C sp) (tk : Takes X W) (hr : Room j X.A) (hk : k + 1 ≤ j) (hg : Gl X x) (ha : PA X (e :: es) t) (hdb : (x == ("__debug__" : Str)) = false := by decide)
    (he : starEach (e :: es) X.env = (false, eval e X.env) :: starEach es X.env := by rfl) (hpl : (backTo pos (starEach es X.env)).any (·.1) = false := by rfl) : PE X (.Call (.Name x p) (e :: es) [] pos) (tMakeS C sp (WE W) t) := by
  obtain ⟨f, fd, ps, M, F, hm, hb⟩ := c.ex
  refine ⟨fun pins s σ H Q I h => ?_⟩
  refine wpAny_Call_Name_kw (ld_glob I hg hm ?_ hdb)
  refine PySem.W.callWith_K (h₀ := X.base) I.ok.mod.kin M.kp (thn (ha.run pos pins s σ H _ I h) fun us s1 ⟨vs, H1, I1, r, q⟩ => ⟨I1.kIn, ?_⟩) he hpl
  have hq := q (s1.heap.objs.size + 1) s1.heap.objs.size (I1.hok.fresh (Nat.le_succ _)) (I1.hok.fresh (Nat.le_refl _)) (Nat.ne_of_lt (Nat.lt_succ_self _))
  have I2 := Inv.made (C := C) I1
  have r2 : Vals (V.ref (s1.heap.objs.size + 1) :: vs) (Value.ref (s1.heap.objs.size + 1) :: us) := .cons rfl r
  have hl : (Value.ref (s1.heap.objs.size + 1) :: us ++ []).length = ps.length := by
    have e := r2.length
    rw [F.len _ _ _ _ hq] at e
    rw [List.append_nil]
    exact e.symm
  have hb2 := hb _ (Value.ref (s1.heap.objs.size + 1) :: us) I2.kIn hl
  rw [List.append_nil] at hb2
  refine wpAny_call (make_map (f := f) I1.kIn M.makes M.init (beq_iff_eq.mp M.fn) (codeAny_mono (F.run _ X.stack _ _ ⟨Value.ref (s1.heap.objs.size + 1) :: us, []⟩ (Value.ref (s1.heap.objs.size + 1) :: us) _ _ (WE W σ) ((hr.mono hk).make C us [])
    (I2.env0.make C us []) hb2 r2 hq) fun r s' hq' => ?_))
  cases r with
  | error e => exact passAt tk σ pins _ _ e s' I2 hq'
  | ok fl =>
    cases fl with
    | ret u =>
      obtain ⟨v, H', I3, rv, ev, q3⟩ := I2.after hq'
      subst ev
      exact ⟨rv, ⟨V.ref (s1.heap.objs.size + 1), H', I3, rfl, q3⟩⟩
    | next => exact False.elim hq'
    | brk => exact False.elim hq'
    | cont => exact False.elim hq'
theorem pmk_rai (c : RaiX X.prog X.w X.K X.mg X.base k x C sp) (hr : Room j X.A) (hk : k + 1 ≤ j) (hg : Gl X x) (ha : PA X (e :: es) t) (hdb : (x == ("__debug__" : Str)) = false := by decide)
    (he : starEach (e :: es) X.env = (false, eval e X.env) :: starEach es X.env := by rfl) (hpl : (backTo pos (starEach es X.env)).any (·.1) = false := by rfl) : PMk X (.Call (.Name x p) (e :: es) [] pos) (tMkO C sp [] t) := by
  obtain ⟨f, fd, ps, T, iC, tI, F, hm, b⟩ := c.ex
  exact pmk_xc T iC tI F (hr.mono hk) b .nil C8.pass0 hg hm ha hdb he hpl
end
def wManyA (K : PySem.W.Frag) (Wout : WX) (D : Ends) : List (Value × Option Nat × (Addr → Value → Option Addr → TS)) → WX
  | [] => Wout
  | (c, none, ts) :: r => fun cls d σ H => ∃ b, PySem.W.exmOne K cls c = some b ∧ (b = true → ∀ a, H a = none → ts a cls d D σ H) ∧ (b = false → wManyA K Wout D r cls d σ H)
  | (c, some i, ts) :: r => fun cls d σ H => ∃ b, PySem.W.exmOne K cls c = some b ∧ (b = true → ∀ a, H a = none → ts a cls d { nx := fun σ' H' => D.nx (σ'.set i none) H', rt := D.rt, bk := fun σ' H' => D.bk (σ'.set i none) H', ct := fun σ' H' => D.ct (σ'.set i none) H' } (σ.set i (some (.ref a))) H) ∧
      (b = false → wManyA K Wout D r cls d σ H)
inductive HdsA (X : Cx) : List ExceptHandler → List (Value × Option Nat × (Addr → Value → Option Addr → TS)) → Prop
  | nil : HdsA X [] []
  | cons {x : Str} {c : Value} {ts : Addr → Value → Option Addr → TS} {b₀ : Stmt} {suite : List Stmt} {np pos' : Pos} {hds : List ExceptHandler} {l : List (Value × Option Nat × (Addr → Value → Option Addr → TS))} (hc : Names X x c)
      (hsu : ∀ (a : Addr) (oe : Obj) (cls : Value) (d : Option Addr) (pn : List (Addr × Obj)), Zc cls d oe → (∃ vs, oe.data = .fields vs) → PSs (X.suite a ((a, oe) :: pn)) (b₀ :: suite) (ts a cls d)) (r : HdsA X hds l) :
      HdsA X (.ExceptHandler (some (.Name x np)) none (b₀ :: suite) pos' :: hds) ((c, none, ts) :: l)
  | consA {x n : Str} {i : Nat} {c : Value} {ts : Addr → Value → Option Addr → TS} {b₀ : Stmt} {suite : List Stmt} {np pos' : Pos} {hds : List ExceptHandler} {l : List (Value × Option Nat × (Addr → Value → Option Addr → TS))} (hi : X.N[i]? = some n) (hln : X.env.kindOf n = some .local) (hc : Names X x c)
      (hsu : ∀ (a : Addr) (oe : Obj) (cls : Value) (d : Option Addr) (pn : List (Addr × Obj)), Zc cls d oe → (∃ vs, oe.data = .fields vs) → PSs (X.suite a ((a, oe) :: pn)) (b₀ :: suite) (ts a cls d)) (r : HdsA X hds l) :
      HdsA X (.ExceptHandler (some (.Name x np)) (some n) (b₀ :: suite) pos' :: hds) ((c, some i, ts) :: l)
section
variable {X : Cx} {body : List Stmt} {h₀ : ExceptHandler} {hds : List ExceptHandler} {l : List (Value × Option Nat × (Addr → Value → Option Addr → TS))} {pos : Pos} {tb : WX → TS} {Wout : WX}
theorem ps_try_manyA (hs : X.stack = X.env :: X.outer) (hf : X.env.frame = some X.env.locals) (hN : X.N.Nodup) (tk : Takes X Wout)
    (hb : ∀ (W : WX) (pn : List (Addr × Obj)) (xe : Value → Shared → Prop), Takes (X.tr pn xe) W → PassesOwn (model X.prog X.w) X.A X.env xe → PSs (X.tr pn xe) body (tb W))
    (hh : HdsA X (h₀ :: hds) l) : PS X (.Try body (h₀ :: hds) [] [] pos) (fun D σ H => tb (wManyA X.K Wout D l) D σ H) := by
  refine ⟨fun pins s σ H D I h => ?_⟩
  have ok := I.ok
  have hfr : X.A.frames = some (X.env :: X.outer) := by rw [ok.frames, hs]
  refine wpAny_Try_except ?_
  refine wpAny_mono ((hb (wManyA X.K Wout D l) (X.pn ++ pins) (fun e s₁ => wpAny (model X.prog X.w) X.A (noteFrame e X.env) (fun _ s₂ => wpAny (model X.prog X.w) X.A (setFlight e none) (fun _ s₃ =>
    wpAny (model X.prog X.w) X.A (handleBy e X.env (h₀ :: hds)) (SP X pins D) X.xe s₃) X.xe s₂) X.xe s₁) (fun u s' xx => ?_) PassesOwn.looking).run [] s σ H D (I.toTry _) h) (fun f s1 hsp => ?_) (fun e s1 he => he)
  · obtain ⟨a, B, sI, pins', σ', H', cls, d, rfl, J', nb, up, sky, na, os, ag, w⟩ := xx
    have J : Inv X pins σ' H' sI := J'.ofTry ok
    have sky' : Sky B (X.env :: X.outer) a (Zc cls d) X.env.locals s'.heap := by rw [← hs]; exact sky
    show wpAny (model X.prog X.w) X.A (noteFrame (.ref a) X.env) _ _ _
    refine Sky.land Zc.steady hfr hf sky' fun h3 fl3 up3 => ?_
    have J3 : Inv X pins σ' H' { s' with heap := h3 } := J.landed nb fl3.1 (up.trans up3) os ag
    obtain ⟨oe3, vs3, he3, hz3, hd3⟩ := fl3.there
    have notFr : ∀ {h : Heap} {o : Obj} {vs : Array Value}, h.FunFrames B (X.env :: X.outer) → h.get? a = some o → o.data = .fields vs → a ∉ frs (X.env :: X.outer) := fun {h o vs} ff e dd hm => by
      obtain ⟨_, o', e', hnf⟩ := ff.mem hm
      rw [e] at e'; cases e'
      exact hnf _ dd
    have nfr := notFr fl3.2.2.1 he3 hd3
    have nL : a ≠ X.env.locals := fun z => nfr (List.mem_filterMap.mpr ⟨X.env, List.mem_cons_self, by rw [hf, z]⟩)
    have nF : a ∉ X.fs := fun hm => by
      obtain ⟨e, he, q⟩ := List.mem_filterMap.mp hm
      exact nfr (List.mem_filterMap.mpr ⟨e, List.mem_cons_of_mem _ he, q⟩)
    have S3 := J3.suite he3 hd3 na nL nF
    have LT : PySem.W.Looks (model X.prog X.w) h3 (typeOf (.ref a)) cls := fun A Q E s k q => wpAny_typeOf_ref (k _ _ he3) (by rw [hz3.1]; exact q)
    have test : ∀ {x : Str} {c : Value} {np : Pos} (hc : Names X x c) {Q : Value → Shared → Prop} {E : Value → Shared → Prop}, Q c { s' with heap := h3 } → wpAny (model X.prog X.w) (X.A.mark (some (.ref a))) (eval (.Name x np) X.env) Q E { s' with heap := h3 } := fun {x c np} hc {Q E} q => by
      obtain ⟨hg, hdbg, hm | ⟨hm, hv, hnn⟩⟩ := hc
      · exact ld_glob (X := X.suite a ((a, oe3) :: (X.pn ++ pins))) S3 hg hm q hdbg
      · exact ld_blt (X := X.suite a ((a, oe3) :: (X.pn ++ pins))) S3 hg hm hv q hnn hdbg
    have go : ∀ {hds' : List ExceptHandler} {l' : List (Value × Option Nat × (Addr → Value → Option Addr → TS))}, HdsA X hds' l' → wManyA X.K Wout D l' cls d σ' H' →
        wpAny (model X.prog X.w) X.A (handleBy (.ref a) X.env hds') (SP X pins D) X.xe { s' with heap := h3 } := by
      intro hds' l' hk
      induction hk with
      | nil =>
        intro w
        refine wpAny_handleBy_nil ?_
        obtain ⟨k1, k2, k3, oe, vs, T, oT, ts', he, hz, hd, h1, hr⟩ := id fl3
        unfold PySem.passOn
        refine wpAny_bind (wpAny_field he hd h1 ?_)
        rw [if_neg (show ¬ ((Value.ref T == Value.none) = true) from by simp)]
        have fin : wpAny (model X.prog X.w) X.A (setFlight (.ref a) X.env.frame) (fun _ s4 => wpAny (model X.prog X.w) X.A (throw (.ref a) : Sem Flow) (SP X pins D) X.xe s4) X.xe { s' with heap := h3 } := by
          rw [hf]
          refine HandSPX.setFlight_upZ fl3 fun h4 hh4 up4 => wpAny_throw (tk _ _ ?_)
          exact ⟨a, B, sI, pins, σ', H', cls, d, rfl, J, nb, (up.trans up3).trans up4, .inr (.inr (by rw [hs]; exact hh4)), na, os, ag, w⟩
        first
          | exact wpAny_bind (wpAny_pure (wpAny_bind fin))
          | exact wpAny_bind fin
      | @cons x c ts b₀ suite np pos' hds2 l2 hc hsu r ih =>
        intro w
        obtain ⟨b, hb1, hyes, hno⟩ := w
        refine wpAny_handleBy_cons (codeAny_handlers_test ?_) (by intro q; cases q)
        have LM := PySem.W.exm_one (M := model X.prog X.w) (J3.kIn) LT hb1
        refine test hc (LM.here ?_)
        cases b with
        | true =>
          refine codeAny_handlers_suite ?_
          refine HandSPX.lands_againZ fl3 fun h4 fl4 up4 => ?_
          have J4 : Inv X pins σ' H' { s' with heap := h4 } := J.landed nb fl4.1 ((up.trans up3).trans up4) os ag
          obtain ⟨oe4, vs4, he4, hz4, hd4⟩ := fl4.there
          have S4 := J4.suite he4 hd4 na nL nF
          refine wpAny_mono ((hsu a oe4 cls d (X.pn ++ pins) hz4 ⟨_, hd4⟩).run [] _ _ H' _ S4 (hyes rfl a na)) (fun f s6 hsp => ?_) (fun _ _ z => False.elim z)
          cases f with
          | next =>
            obtain ⟨σ6, H6, S6, q6⟩ := hsp
            exact ⟨_, _, S6.unsuite ok, q6⟩
          | brk =>
            obtain ⟨σ6, H6, S6, q6⟩ := hsp
            exact ⟨_, _, S6.unsuite ok, q6⟩
          | cont =>
            obtain ⟨σ6, H6, S6, q6⟩ := hsp
            exact ⟨_, _, S6.unsuite ok, q6⟩
          | ret u =>
            obtain ⟨v6, σ6, H6, S6, r6, q6⟩ := hsp
            exact ⟨_, _, _, S6.unsuite ok, r6, q6⟩
        | false =>
          show wpAny _ X.A (handleBy (.ref a) X.env hds2) _ _ _
          exact ih (hno rfl)
      | @consA x n i c ts b₀ suite np pos' hds2 l2 hi hln hc hsu r ih =>
        intro w
        obtain ⟨b, hb1, hyes, hno⟩ := w
        refine wpAny_handleBy_cons (codeAny_handlers_test ?_) (by intro q; cases q)
        have LM := PySem.W.exm_one (M := model X.prog X.w) (J3.kIn) LT hb1
        refine test hc (LM.here ?_)
        cases b with
        | true =>
          refine codeAny_handlers_suite_as ?_
          refine HandSPX.lands_againZ fl3 fun h4 fl4 up4 => ?_
          have J4 : Inv X pins σ' H' { s' with heap := h4 } := J.landed nb fl4.1 ((up.trans up3).trans up4) os ag
          obtain ⟨oe4, vs4, he4, hz4, hd4⟩ := fl4.there
          have S4 := J4.suite he4 hd4 na nL nF
          refine store_ok (X := X.suite a ((a, oe4) :: (X.pn ++ pins))) (v := .ref a) S4 hN hi (.inl hln) rfl (fun s5 S5 => ?_) (.inr hln)
          refine wpAny_mono ((hsu a oe4 cls d (X.pn ++ pins) hz4 ⟨_, hd4⟩).run [] s5 _ H' _ S5 (hyes rfl a na)) (fun f s6 hsp => ?_) (fun _ _ z => False.elim z)
          have end_ : ∀ {σ6 : L2.St} {H6 : Hp} {Q : Shared → Prop}, Inv (X.suite a ((a, oe4) :: (X.pn ++ pins))) [] σ6 H6 s6 → (∀ s7, Inv X pins (σ6.set i none) H6 s7 → Q s7) →
              wpAny (model X.prog X.w) X.A (do bindName X.env n .none; unbindBehindTheSuite X.env n pos') (fun _ s7 => Q s7) X.xe s6 := fun {σ6 H6 Q} S6 hq => gone_ok (S6.unsuite ok) hN hi hln hq
          cases f with
          | next =>
            obtain ⟨σ6, H6, S6, q6⟩ := hsp
            exact end_ S6 fun s7 J7 => ⟨_, _, J7, q6⟩
          | brk =>
            obtain ⟨σ6, H6, S6, q6⟩ := hsp
            exact end_ S6 fun s7 J7 => ⟨_, _, J7, q6⟩
          | cont =>
            obtain ⟨σ6, H6, S6, q6⟩ := hsp
            exact end_ S6 fun s7 J7 => ⟨_, _, J7, q6⟩
          | ret u =>
            obtain ⟨v6, σ6, H6, S6, r6, q6⟩ := hsp
            exact end_ S6 fun s7 J7 => ⟨_, _, _, J7, r6, q6⟩
        | false =>
          show wpAny _ X.A (handleBy (.ref a) X.env hds2) _ _ _
          exact ih (hno rfl)
    exact go hh w
  · cases f with
    | next =>
      obtain ⟨σ', H', J', q⟩ := hsp
      exact wpAny_execs_nil ⟨σ', H', J'.ofTry ok, q⟩
    | brk =>
      obtain ⟨σ', H', J', q⟩ := hsp
      exact ⟨σ', H', J'.ofTry ok, q⟩
    | cont =>
      obtain ⟨σ', H', J', q⟩ := hsp
      exact ⟨σ', H', J'.ofTry ok, q⟩
    | ret u =>
      obtain ⟨v, σ', H', J', r, q⟩ := hsp
      exact ⟨v, σ', H', J'.ofTry ok, r, q⟩
end
end LX
set_option maxHeartbeats 2000000
namespace LX
open PySem PySem.Spec PyProof.Rows L2 C8 SX
mutual
theorem dp_same {K : PySem.W.Frag} {H H' : Hp} (s : Same H H') : ∀ (d : PyData) (v : V), Dp K H v d → Dp K H' v d
  | .none, _, h => by cases h; exact .non
  | .bool b, _, h => by cases h; exact .bl b
  | .int i, _, h => by cases h; exact .int i
  | .str x, _, h => by cases h; exact .str x
  | .list ds, _, h => by
    cases h with
    | lst hs ha => exact .lst (s.seq hs) (dpa_same s ds _ ha)
  | .tuple ds, _, h => by
    cases h with
    | tup hs ha => exact .tup (sm_seqT s hs) (dpa_same s ds _ ha)
  | .dict _, _, h => by cases h
theorem dpa_same {K : PySem.W.Frag} {H H' : Hp} (s : Same H H') : ∀ (ds : List PyData) (vs : List V), DpAll K H vs ds → DpAll K H' vs ds
  | [], _, h => by cases h; exact .nil
  | d :: ds, _, h => by
    cases h with
    | cons h1 h2 => exact .cons (dp_same s d _ h1) (dpa_same s ds _ h2)
end
theorem dpa_len {K : PySem.W.Frag} {H : Hp} : ∀ {vs : List V} {ds : List PyData}, DpAll K H vs ds → vs.length = ds.length
  | _, _, .nil => rfl
  | _, _, .cons _ h => by rw [List.length_cons, List.length_cons, dpa_len h]
theorem dpa_at {K : PySem.W.Frag} {H : Hp} : ∀ {vs : List V} {ds : List PyData}, DpAll K H vs ds → ∀ (i : Nat) (v : V), vs[i]? = some v → ∃ d, ds[i]? = some d ∧ Dp K H v d
  | _, _, .nil, i, v, h => by simp at h
  | _, _, .cons h _, 0, v, e => by cases e; exact ⟨_, rfl, h⟩
  | _, _, .cons _ h, i + 1, v, e => dpa_at h i v e
def wo (B : List Addr) (H : Hp) : Hp := fun a => if a ∈ B then none else H a
def Liv (B : List Addr) (H : Hp) : Prop := ∀ b ∈ B, H b ≠ none
section
variable {B : List Addr} {H H' : Hp} {a : Addr} {o : HO}
theorem wo_in (h : a ∈ B) : wo B H a = none := if_pos h
theorem wo_out (h : a ∉ B) : wo B H a = H a := if_neg h
theorem wo_get (h : H a = some o) (n : a ∉ B) : wo B H a = some o := (wo_out n).trans h
theorem of_wo (h : wo B H a = some o) : H a = some o ∧ a ∉ B := by
  by_cases n : a ∈ B
  · rw [wo_in n] at h; cases h
  · exact ⟨(wo_out n).symm.trans h, n⟩
theorem wo_same (s : Same H H') : Same (wo B H) (wo B H') := fun a o h => let ⟨e, n⟩ := of_wo h; wo_get (s _ _ e) n
theorem wo_sub : Same (wo B H) H := fun _ _ h => (of_wo h).1
theorem wo_cons {b : Addr} : Same (wo (b :: B) H) (wo B H) := fun a o h => let ⟨e, n⟩ := of_wo h; wo_get e fun m => n (List.mem_cons_of_mem _ m)
theorem wo_upd_in (h : a ∈ B) : wo B (upd H a o) = wo B H := by
  funext c
  by_cases n : c ∈ B
  · rw [wo_in n, wo_in n]
  · rw [wo_out n, wo_out n, upd_ne (fun e => n (by rw [e]; exact h))]
theorem Liv.same (l : Liv B H) (s : Same H H') : Liv B H' := fun b hb e => by
  cases q : H b with
  | none => exact l b hb q
  | some o => rw [s _ _ q] at e; cases e
theorem Liv.new (l : Liv B H) (h : H a = none) : a ∉ B := fun m => l a m h
theorem Liv.cons {b : Addr} (l : Liv B H) (h : H b = some o) : Liv (b :: B) H := fun c hc e => by
  rcases List.mem_cons.mp hc with rfl | m
  · rw [h] at e; cases e
  · exact l c m e
theorem same_new {p : Addr} (s : Same H H') (h : H' p = none) : H p = none := by
  cases e : H p with
  | none => rfl
  | some o => rw [s _ _ e] at h; cases h
end
def RD (K : PySem.W.Frag) (B : List Addr) (t : TE) (d : PyData) (σ : L2.St) (H : Hp) : Prop := Liv B H → ∀ Q : VK, (∀ v H', Same H H' → Dp K (wo B H') v d → Q v H') → t σ H Q
def RDs (K : PySem.W.Frag) (B : List Addr) (t : TA) (ds : List PyData) (σ : L2.St) (H : Hp) : Prop := Liv B H → ∀ Q : List V → Hp → Prop, (∀ vs H', Same H H' → DpAll K (wo B H') vs ds → Q vs H') → t σ H Q
theorem dpa_of {K : PySem.W.Frag} {H : Hp} : ∀ {ys : List V} {n : Nat} {dd : Nat → PyData}, ys.length = n → (∀ (j : Nat) y, ys[j]? = some y → Dp K H y (dd j)) → DpAll K H ys ((List.range n).map dd)
  | [], _, _, hl, _ => by subst hl; exact .nil
  | y :: ys, _, dd, hl, h => by
    subst hl
    rw [List.length_cons, List.range_succ_eq_map, List.map_cons, List.map_map]
    exact .cons (h 0 y rfl) (dpa_of (dd := dd ∘ Nat.succ) rfl fun j z e => h (j + 1) z e)
section
variable {K : PySem.W.Frag} {B : List Addr} {σ : L2.St} {H : Hp} {t : TE} {ta : TA} {d : PyData} {ds : List PyData}
theorem rd_non : RD K B (tC .non) .none σ H := fun _ _ q => q _ H (Same.refl H) .non
theorem rd_int {i : Int} : RD K B (tC (.int i)) (.int i) σ H := fun _ _ q => q _ H (Same.refl H) (.int i)
theorem rd_bl {b : Bool} : RD K B (tC (.bl b)) (.bool b) σ H := fun _ _ q => q _ H (Same.refl H) (.bl b)
theorem rd_str {x : Str} : RD K B (tC (.str x)) (.str x) σ H := fun _ _ q => q _ H (Same.refl H) (.str x)
theorem rd_var {i : Nat} {v : V} (e : σ[i]? = some (some v)) (h : Dp K (wo B H) v d) : RD K B (tVar i) d σ H := fun _ _ q => ⟨v, e, q _ H (Same.refl H) h⟩
theorem rd_nil : RDs K B tNil [] σ H := fun _ _ q => q _ H (Same.refl H) .nil
theorem rd_cons (h1 : RD K B t d σ H) (h2 : ∀ H', Same H H' → Liv B H' → RDs K B ta ds σ H') : RDs K B (tCons t ta) (d :: ds) σ H := fun l _ q =>
  h1 l _ fun v H1 s1 hv => h2 H1 s1 (l.same s1) (l.same s1) _ fun vs H2 s2 hvs => q _ H2 (s1.trans s2) (.cons (dp_same (wo_same s2) _ _ hv) hvs)
theorem rd_lst (h : RDs K B ta ds σ H) (hl : ds.length ≤ sizeLine := by decide) : RD K B (tLst ta) (.list ds) σ H := fun l _ q =>
  h l _ fun vs H1 s1 hvs => ⟨by rw [dpa_len hvs]; exact hl, fun p hp => q _ _ (s1.trans (sm_new hp)) (.lst (SqL.of (wo_get upd_same ((l.same s1).new hp))) (dpa_same (wo_same (sm_new hp)) _ _ hvs))⟩
theorem rd_tup (h : RDs K B ta ds σ H) (hl : ds.length ≤ sizeLine := by decide) : RD K B (tTup ta) (.tuple ds) σ H := fun l _ q =>
  h l _ fun vs H1 s1 hvs => ⟨by rw [dpa_len hvs]; exact hl, fun p hp => q _ _ (s1.trans (sm_new hp)) (.tup (SqT.of (wo_get upd_same ((l.same s1).new hp))) (dpa_same (wo_same (sm_new hp)) _ _ hvs))⟩
theorem rd_lstA {Q : VK} (l : Liv B H) (h : RDs K B ta ds σ H) (hl : ds.length ≤ sizeLine) (q : ∀ p xs H', Same H H' → H p = none → H' p = some (.lst xs) → DpAll K (wo B H') xs ds → Q (.ref p) H') : tLst ta σ H Q :=
  h l _ fun vs H1 s1 hvs => ⟨by rw [dpa_len hvs]; exact hl, fun p hp => q p vs _ (s1.trans (sm_new hp)) (same_new s1 hp) upd_same (dpa_same (wo_same (sm_new hp)) _ _ hvs)⟩
theorem gn1 {i : Nat} {v : V} {Q : L2.St → Hp → Prop} (h : Q (σ.set i (some v)) H) : gName i v σ H Q := h
theorem pr1 {k : V} {tv : TE} {Q : List (V × V) → Hp → Prop} (h : tv σ H fun y H2 => Q [(k, y)] H2) : tPairs [(tC k, tv)] σ H Q := h
theorem lc_rd {J : It} {n : Nat} {G : Hp → Prop} {Y : Nat → Hp → V → Hp → Prop} {H1 : Hp} (w : Walk J n G Y) {g : TG} {te : TE} {vs : List Nat} {D : Addr} {Qd : Hp → Prop} (hB : Liv B H1) (hD : H1 D = none) (hn : n < sizeLine) (dd : Nat → PyData) (hG : ∀ H, Same H1 H → G H)
    (hs : ∀ i x H H' (R : V → Hp → Prop), i < n → Same H1 H → Liv (D :: B) H → Y i H x H' → (∀ y H4, Same H H4 → Dp K (wo (D :: B) H4) y (dd i) → R y H4) → g x (wipe σ vs) H' fun σ2 H2 => wipe σ2 vs = wipe σ vs ∧ te σ2 H2 R)
    (hd : ∀ ys H, Same H1 H → H D = some (.lst ys) → DpAll K (wo B H) ys ((List.range n).map dd) → Dp K (wo B H) (.ref D) (.list ((List.range n).map dd)) → Qd H) :
    ∃ W : Nat → Nat → Hp → Prop, (∃ m, W 0 m (upd H1 D (.lst []))) ∧ ∀ i m H, W i m H →
      (J.stop i H ∧ Qd H) ∨ (J.go i H ∧ ∃ Nx : Hp → Prop, (∀ H', Nx H' → ∃ m', m' < m ∧ W (i + 1) m' H') ∧ ∀ x H', J.yld i H x H' → g x (wipe σ vs) H' fun σ2 H2 => wipe σ2 vs = wipe σ vs ∧ tYes σ2 H2 fun b H3 =>
        if b = true then te σ2 H3 fun y H4 => ∃ acc, H4 D = some (.lst acc) ∧ acc.length < sizeLine ∧ Nx (upd H4 D (.lst (acc ++ [y]))) else Nx H3) := by
  refine lc_keepH keep_same w hD hn (fun i y H => Dp K (wo (D :: B) H) y (dd i)) hG (fun i y H H' _ r h => dp_same (wo_same r) _ _ h) (fun i y H acc o _ _ h => by rw [wo_upd_in List.mem_cons_self]; exact h) (fun i x H H' acc R hi r hDa hy hR => hs i x H H' R hi r ((hB.same r).cons hDa) hy hR) (fun ys H hl hg r hDs => ?_)
  have ha := dpa_of hl fun j y e => dp_same wo_cons _ _ (hg j y e)
  exact hd ys H r hDs ha (.lst (SqL.of (wo_get hDs (hB.new hD))) ha)
end
end LX
set_option maxHeartbeats 4000000
namespace LX
open PySem PySem.Spec PyProof.Rows L2 C8 SX ClX
structure CMX (P : Program) (w : World) (K : PySem.W.Frag) (mg : Str → Option Value) (base : Heap) (k : Nat) (C : Addr) (m : Str) (sp : Sp) : Prop where
  ex : ∃ (p g : Addr) (fd : FuncData) (ps : List Str) (mc : Value), CRead K C mc ∧ CMet K C mc m p g ∧ FnOk P w K mg base (L2.CX P w) k g fd ps sp ∧ Binds K fd ps []
def tCMX (C : Addr) (sp : Sp) (E : L2.St → XK) (ta : TE) (t : TA) : TE := fun σ H Q => ta σ H fun x H1 => x = .ref C ∧ t σ H1 fun vs H2 => sp (.ref C :: vs) H2 Q (E σ)
section
variable {X : Cx} {k j : Nat} {C : Addr} {m : Str} {sp : Sp} {W : WX} {o e : Expr} {es : List Expr} {pos apos : Pos} {ta : TE} {t : TA} {pl : Sem Bool}
theorem run_codeS {f : Addr} {fd : FuncData} {ps : List Str} {σ : L2.St} {pins : List (Addr × Obj)} {H : Hp} {s : Shared} {Q : VK} {us : List Value} {vs : List V} (F : FnOk X.prog X.w X.K X.mg X.base (L2.CX X.prog X.w) k f fd ps sp) (hr : Room k X.A) (hb : Binds X.K fd ps []) (hx : PassesAt (L2.CX X.prog X.w) X σ (WE W σ))
    (I : Inv X pins σ H s) (r : Vals vs us) (h : sp vs H Q (WE W σ)) : codeAny (model X.prog X.w) X.A (.call (.ref f) ⟨us, []⟩) (fun r s' => match r with | .ok (.ret v) => EP X pins σ Q v s' | .ok _ => False | .error e => X.xe e s') s := by
  have hl : us.length = ps.length := by rw [← r.length]; exact F.len _ _ _ _ h
  have b := hb s us I.kIn (by rw [List.append_nil]; exact hl)
  rw [List.append_nil] at b
  refine codeAny_mono (F.run X.A X.stack s H ⟨us, []⟩ us vs Q (WE W σ) hr I.env0 b r h) fun r s' hq => ?_
  cases r with
  | error e => exact hx pins H s e s' I hq
  | ok fl =>
    cases fl with
    | ret u => exact I.after hq
    | next => exact False.elim hq
    | brk => exact False.elim hq
    | cont => exact False.elim hq
theorem pe_cmX (c : CMX X.prog X.w X.K X.mg X.base k C m sp) (tk : Takes X W) (hr : Room j X.A) (hk : k ≤ j) (he : PE X o ta) (ha : PA X (e :: es) t)
    (hst : starEach (e :: es) X.env = (false, eval e X.env) :: starEach es X.env := by rfl) (hpl : (backTo pos (starEach es X.env)).any (·.1) = false := by rfl)
    (ht : eval (.Call (.Attribute o m apos) (e :: es) [] pos) X.env = (do
      let ov ← eval o X.env
      standAt apos.atName
      let (f, first) ← holding [ov] (getMethod ov m pl)
      callWith pos f first (backTo pos (starEach (e :: es) X.env)) (backToKw pos (keywordEach [] X.env))) := by rfl) :
    PE X (.Call (.Attribute o m apos) (e :: es) [] pos) (tCMX C sp (WE W) ta t) := by
  obtain ⟨p, g, fd, ps, mc, r, cm, F, hb⟩ := c.ex
  refine ⟨fun pins s σ H Q I h => ?_⟩
  refine PySem.W.methodCall_KW (pl := pl) (thn (he.run pins s σ H _ I h) fun u s1 ⟨x, H1, I1, rx, ex, q⟩ => ?_) ht
  subst ex
  obtain rfl : u = Value.ref C := rx
  refine getmethcm_ok I1 r cm fun s2 I2 => ?_
  refine callwith_cm I2 (base_none I1 (Nat.le_refl _)) cm.fi (thn (ha.run pos _ s2 σ H1 _ I2 q) fun us s3 ⟨vs, H2, I3, rv, q2⟩ => ⟨⟨pin_at I3, I3.kIn⟩, ?_⟩) hst hpl
  have z : wpAny (model X.prog X.w) X.A (call (.ref s1.heap.objs.size) us) (EP X ((s1.heap.objs.size, PySem.W.methodObj (.ref g) (.ref C)) :: pins) σ Q) X.xe s3 :=
    wpAny_call (PySem.W.method_call (pin_at I3) (run_codeS (us := .ref C :: us) (vs := .ref C :: vs) F (hr.mono hk) hb (passAt tk σ) I3 (.cons rfl rv) q2))
  exact thn z fun _ _ y => unpinE y
theorem pe_c0 {x : Str} {p : Pos} {sp : Sp} {dvs : List V} (c : C8.Cal X.prog X.w X.K X.mg X.base k x sp dvs) (hr : Room j X.A) (hk : k ≤ j) (hg : Gl X x) (hdb : (x == ("__debug__" : Str)) = false := by decide) : PE X (.Call (.Name x p) [] [] pos) (tCall sp dvs C8.E0 tNil) := by
  obtain ⟨f, fd, ps, ds, F, hm, kp, b, d⟩ := c.ex
  exact pe_call0 F (hr.mono hk) hg hm kp b d C8.pass0 hdb
end
end LX
set_option maxHeartbeats 4000000
namespace LX
open PySem PySem.Spec PyProof.Rows L2 C8 SX
section
variable {prog : Program} {w : World} {A : Around} {R : Result → Shared → Prop} {I S : Addr} {fp wr : List Addr} {G : Array GenState → Array GenState → Prop} {n : Nat} {P : Nat → Value → Prop} {St : Nat → Shared → Prop}
def cntT (xs : List Str) : Nat → Nat
  | 0 => 0
  | i + 1 => if (xs.take i).contains (xs.getD i default) then cntT xs i else cntT xs i + 1
theorem cntT_succ {xs : List Str} {i : Nat} {x : Str} (h : xs[i]? = some x) : (if decide (x ∈ xs.take i) = true then cntT xs i else cntT xs i + 1) = cntT xs (i + 1) := by
  have e : xs.getD i default = x := by rw [List.getD_eq_getElem?_getD, h]; rfl
  show _ = if (xs.take i).contains (xs.getD i default) then cntT xs i else cntT xs i + 1
  rw [e]
  by_cases q : x ∈ xs.take i <;> simp [q]
theorem cntT_le (xs : List Str) : ∀ i, cntT xs i ≤ i
  | 0 => Nat.le_refl _
  | i + 1 => by
    have := cntT_le xs i
    unfold cntT
    split <;> omega
abbrev ElemG (prog : Program) (w : World) (xs : List Str) (i : Nat) (S : Addr) (h : Heap) : Prop := h.SetOf (PySem.strKind prog w) S (fun k => decide (k ∈ xs.take i)) (cntT xs i)
theorem ElemG.stay {xs : List Str} {i : Nat} {h h' : Heap} (e : ElemG prog w xs i S h) (k : ∀ o, h.get? S = some o → h'.get? S = some o) : ElemG prog w xs i S h' :=
  let ⟨o, es, ep, tb, ho, rest⟩ := e; ⟨o, es, ep, tb, k o ho, rest⟩
theorem set_loopG (W : WalksS prog w A.in1 I fp wr G n P St) (off : S ∉ fp) {xs : List Str} (hl : xs.length = n) (room : n < scanBound) (val : ∀ i v, P i v → ∃ x t, xs[i]? = some x ∧ v = .str x t) :
    ∀ (k i : Nat) (s : Shared), i + k = n → St i s → ElemG prog w xs i S s.heap → (∀ s', Moved (S :: wr) G s s' → ElemG prog w xs n S s'.heap → R (.ok (.ret .none)) s') →
      codeAny (model prog w) A (.builtin "set.update.loop" ⟨[.ref S, .ref I], []⟩) R s
  | 0, i, s, hk, hst, he, hR => by
    obtain rfl : i = n := hk
    refine codeAny_builtin PyProof.Rows.F.entry_set_update_loop ?_
    rw [Around.under_plainId PyProof.Rows.F.plain_set_update_loop _]
    refine wpAny_bind (W.done s _ _ hst fun s' hm => wpAny_pure (hR s' (hm.mono fun b hb => List.mem_cons_of_mem _ hb) (he.stay fun o e => hm.heap S o (fun h => off (W.sub _ h)) e)))
  | k + 1, i, s, hk, hst, he, hR => by
    refine codeAny_builtin PyProof.Rows.F.entry_set_update_loop ?_
    rw [Around.under_plainId PyProof.Rows.F.plain_set_update_loop _]
    refine wpAny_bind (W.item i s _ _ (by omega) hst fun v s' hP hst' hm => ?_)
    obtain ⟨x, t, hx, rfl⟩ := val i v hP
    have he' : ElemG prog w xs i S s'.heap := he.stay fun o e => hm.heap S o (fun h => off (W.sub _ h)) e
    show wpAny _ A.in1 (holding [Value.str x t] (setAdd S (.str x t)) >>= _) _ _ s'
    refine wpAny_bind (wpAny_holding ?_)
    unfold setAdd
    refine wpAny_holding (wpAny_bind ((PySem.strKind prog w).pyHash (k := x) (strKind_is _ _ _ _) ?_))
    refine wpAny_setAddHashed_of (knd := PySem.strKind prog w) (s := { s' with toks := s'.toks + 1 }) (strKind_is _ _ _ _) rfl he' (by have := cntT_le xs i; omega) fun h' hsb hS2 => ?_
    have he2 : ElemG prog w xs (i + 1) S h' := SetOf_congr hS2 (fun y => by rw [take_more hx]; by_cases e : y ∈ xs.take i <;> by_cases e2 : y = x <;> simp [e, e2]) (cntT_succ hx)
    refine wpAny_pure ⟨plainId_quiet PyProof.Rows.F.plain_set_update_loop _, set_loopG W off hl room val k (i + 1) _ (by omega) (W.frame _ s' _ _ hst' (Nat.le_succ _) fun b hb o e => ?_) he2 fun s2 hm2 he3 => ?_⟩
    · rw [hsb.2 b (fun h => off (h ▸ hb))]; exact e
    · refine hR s2 (Moved.trans W.gtrans ((hm.mono fun b hb => List.mem_cons_of_mem _ hb).then_heap (Nat.le_succ _) fun b o hb e => ?_) hm2) he3
      rw [hsb.2 b (fun h => hb (by rw [h]; exact List.mem_cons_self))]; exact e
end
section
variable {prog : Program} {w : World} {A : Around} {E : Value → Shared → Prop} {s : Shared}
theorem set_of_listG {l : Addr} {items : Array Value} {xs : List Str} {Q : Value → Shared → Prop} (hh : A.handled = none) (hl : s.heap.IsList l items) (hi : PyProof.Rows.StrsAre items.toList xs) (room : xs.length < scanBound)
    (h : ∀ (h' : Heap) (tk : Nat), ElemG prog w xs xs.length s.heap.objs.size h' → (∀ b o, s.heap.get? b = some o → h'.get? b = some o) → Q (.ref s.heap.objs.size) { s with heap := h', toks := tk }) :
    wpAny (model prog w) A (call (.type "set") [.ref l]) Q E s := by
  obtain ⟨c, tl, hmro⟩ := PySem.F.called_set.mro
  have hmade := PySem.F.called_set.made
  have hsub := PySem.F.called_set.sub
  refine wpAny_call (codeAny_of_tree ?_)
  refine wpAny_pure ⟨Code.quiet_builtin _ (by decide +kernel), codeAny_builtin PySem.F.entry_type_call ?_⟩
  rw [Around.under_plain (weight_type_call_type "set" [.ref l] []) rfl]
  have nt := PySem.F.called_set.notType
  have cc := PySem.F.called_set.canCreate
  have ct := PySem.F.typeCall_set_1 (.ref l)
  repeat (any_goals (first | assumption | wp_step))
  refine codeAny_mono (code_set_new_1 (.ref l) (E := E) (Q₁ := fun obj s1 => ∃ led : Bool, obj = .ref s.heap.objs.size ∧ s1 = { s with heap := s.heap.push { cls := .type "set", dict := none, data := .set #[] 0 (.fresh 0 0 led) } }) fun led => ⟨led, rfl, rfl⟩) fun r s1 hr => ?_
  match r, hr with
  | .ok (.ret obj), hr =>
    obtain ⟨led, rfl, rfl⟩ := hr
    have hS : (s.heap.push (setO led)).get? s.heap.objs.size = some (setO led) := Heap.get?_push_size _ rfl
    have hTy : Shared.TypeIs { s with heap := s.heap.push (setO led) } (.ref s.heap.objs.size) "set" := ⟨_, hS, rfl⟩
    have li := PySem.F.called_set.init.lookup
    have bi := PySem.F.called_set.init.bind (.ref s.heap.objs.size)
    repeat (any_goals (first | assumption | wp_step))
    refine codeAny_mono (codeAny_call_builtin (R := wants (fun r s2 => r = .none ∧ ∃ h' tk, s2 = { s with heap := h', toks := tk } ∧ ElemG prog w xs xs.length s.heap.objs.size h' ∧ (∀ b o, s.heap.get? b = some o → h'.get? b = some o)) E)
      PySem.F.called_set.init.plain PySem.F.entry_set_init (check_set_init_1 hTy ?_)) fun r2 s2 hr2 => ?_
    · obtain ⟨⟨oc, od, odt, osl⟩, hol, hcl, nl, hdl⟩ := hl
      dsimp only at hcl hdl
      subst hcl hdl
      have hol' : (s.heap.push (setO led)).get? l = some { cls := .type "list", dict := od, data := .seq items nl, slots := osl } := Heap.get?_push_of_some _ hol
      have ss := PySem.F.sub_list_set
      have sf := PySem.F.sub_list_frozenset
      have ne : (Value.type "list" == Value.type "dict") = false := by decide
      have hl1 : (s.heap.push (setO led)).IsList l items := ⟨_, hol', rfl, nl, rfl⟩
      unfold Builtin.«set.__init__» noKeywords Builtin.Frozenset.updateFrom
      generalize hPI : pyIter = PI
      wp_walk
      subst hPI
      refine wpAny_pyIter_list hl1 ?_
      refine wpAny_bind (wpAny_runValue ?_)
      have hlS : l < s.heap.objs.size := Heap.lt_size hol
      have hz : (s.heap.push (setO led)).objs.size = s.heap.objs.size + 1 := Heap.size_push ..
      have neI : l ≠ (s.heap.push (setO led)).objs.size := by rw [hz]; exact Nat.ne_of_lt (Nat.lt_succ_of_lt hlS)
      have off : s.heap.objs.size ∉ [(s.heap.push (setO led)).objs.size, l] := by
        rw [hz]; simp only [List.mem_cons, List.not_mem_nil, or_false, not_or]
        exact ⟨Nat.ne_of_lt (Nat.lt_succ_self _), Nat.ne_of_gt hlS⟩
      have hsz : xs.length = items.size := by rw [← StrsAre.len_eq hi, Array.length_toList]
      refine set_loopG (xs := xs) ((Walks.list (A := A.in1.in1.in1) (by simp [hh]) _ l neI items).toS) off hsz (by rw [← hsz]; exact room) (fun i v hv => ?_) items.size 0 _ (Nat.zero_add _) ⟨⟨_, Heap.get?_push_size _ rfl, rfl, rfl⟩, hl1.push _⟩ ?_ fun s' hm hS' => ?_
      · obtain ⟨t, e⟩ := SS.strs_at hi i v (by rw [Array.getElem?_toList]; exact hv)
        have hlt : i < xs.length := by rw [hsz]; exact (Array.getElem?_eq_some_iff.mp hv).1
        exact ⟨xs[i], t, List.getElem?_eq_getElem hlt, by rw [e, List.getD_eq_getElem?_getD, List.getElem?_eq_getElem hlt]; rfl⟩
      · exact PyProof.Rows.SetOf_congr ((PyProof.Rows.setObjOf_fresh (knd := PySem.strKind prog w) led).setOf (Heap.get?_push_of_some _ hS) (by unfold scanBound; omega)) (fun _ => by simp) rfl
      · obtain ⟨h', g', d', tk', os'⟩ := s'
        obtain rfl : g' = s.gens := hm.gens
        obtain rfl : d' = s.drawn := hm.drawn
        obtain rfl : os' = s.os := hm.os
        refine wpAny_pure (wpAny_pure ⟨rfl, h', tk', rfl, by rw [hsz]; exact hS', fun b o e => ?_⟩)
        have hb : b < s.heap.objs.size := Heap.lt_size e
        refine hm.heap b o (fun hmem => ?_) (Heap.get?_push_of_some _ (Heap.get?_push_of_some _ e))
        have e' : b = s.heap.objs.size ∨ b = (s.heap.push (setO led)).objs.size := by simpa using hmem
        rcases e' with e' | e'
        · exact Nat.ne_of_lt hb e'
        · rw [hz] at e'; exact Nat.ne_of_lt (Nat.lt_succ_of_lt hb) e'
    · match r2, hr2 with
      | .ok (.ret r), hr2 =>
        obtain ⟨rfl, h', tk, rfl, hS', hk'⟩ := hr2
        repeat (any_goals (first | assumption | wp_step))
        exact h _ _ hS' hk'
      | .error e, hr2 => exact hr2
  | .error e, hr => exact hr
end
section
variable {X : Cx}
def tLenSetG (K : PySem.W.Frag) (ta : TE) : TE := fun σ H Q => ta σ H fun x H1 => ∃ (l : Addr) (xs : List (List Nat)), x = V.ref l ∧ SqL K H1 l (txs xs) ∧ xs.length < 60 ∧ Q (.int (cntT (xs.map S) xs.length : Nat)) H1
theorem pe_lenSetG {a : Expr} {ta : TE} {p p2 q pos : Pos} (hc : X.calm = true) (hg : Gl X "len") (hm : X.mg "len" = none) (hg2 : Gl X "set") (hm2 : X.mg "set" = none) (ha : PE X a ta)
    (na : starEach [a] X.env = (false, eval a X.env) :: starEach [] X.env := by rfl) : PE X (.Call (.Name "len" p) [.Call (.Name "set" p2) [a] [] q] [] pos) (tLenSetG X.K ta) := by
  refine ⟨fun pins s σ H Q I h => ?_⟩
  refine Call_ (ld_blt I hg hm PySem.boot_len (PyProof.Rows.callWith_builtin1 (PyProof.Rows.args_cons ?_ rfl) rfl rfl))
  refine Call_ (ld_blt I hg2 hm2 PyProof.Rows.boot_set (PyProof.Rows.callWith_type1 (PyProof.Rows.args_cons (thn (ha.run pins s σ H _ I h) fun v s1 ⟨x, H1, I1, r1, q1⟩ => PyProof.Rows.args_nil ?_) na) na rfl))
  obtain ⟨l, xs, rfl, hq, h1, q1⟩ := q1
  cases r1
  have e0 : txs xs = (xs.map S).map V.str := by unfold txs; rw [List.map_map]; rfl
  have room : (xs.map S).length < scanBound := by rw [List.length_map]; unfold scanBound; omega
  rw [e0] at hq
  obtain ⟨its, r, pl, hz⟩ := I1.list hq
  refine set_of_listG (I1.ok.hd hc) pl.isList (by simpa using strsAre_of r) room fun h' tk hS hk => ?_
  refine PyProof.Rows.args_nil ?_
  obtain ⟨o, es, ep, t, ho, hex, hd, _, _, _, hf, hn⟩ := hS
  have I2 : Inv X pins σ H1 { s1 with heap := h', toks := tk } := I1.kept hk
  rw [List.length_map] at hn
  have := cntT_le (xs.map S) xs.length
  exact call_len_set ho hex hd hf (by rw [hn]; omega) ⟨.int (cntT (xs.map S) xs.length : Nat), H1, I2.tok _, ⟨_, by rw [hn]⟩, q1⟩
end
end LX
set_option maxHeartbeats 4000000
namespace LX
open PySem PySem.Spec PyProof.Rows L2 C8 SX
def keyT (e : Int × Value) : Str := match e.2 with
  | .str k _ => k
  | _ => Str.empty
def GoodT (w : World) (e : Int × Value) : Prop := ∃ (k : Str) (u : Tok), e.2 = Value.str k u ∧ e.1 = hashStr w k
def SetT (w : World) (h : Heap) (a : Addr) (ks : List Str) : Prop :=
  ∃ o es ep t, h.get? a = some o ∧ o.ExactSet ∧ o.data = .set es ep t ∧ (∀ x ∈ es.toList, GoodT w x) ∧ (es.toList.map keyT).Nodup ∧ (∀ k, k ∈ es.toList.map keyT ↔ k ∈ ks) ∧ es.size ≤ ks.length ∧ t.fits es.size = true ∧ Ris t.place.toList ∧
    (w.params.followText "set-order" = true ∨ t.led = true)
section
variable {P : Program} {w : World} {A : Around} {E : Value → Shared → Prop} {s : Shared} {a : Addr} {ks : List Str}
theorem SetT.stay {h h' : Heap} (R : SetT w h a ks) (k : ∀ o, h.get? a = some o → h'.get? a = some o) : SetT w h' a ks :=
  let ⟨o, es, ep, t, ho, r⟩ := R; ⟨o, es, ep, t, k o ho, r⟩
theorem is_strT (k : Str) (u : Tok) : (PySem.strKind P w).is k (.str k u) = true := by
  show Value.isStrOf k (.str k u) = true
  simp [Value.isStrOf]
theorem goodT_el {l : List (Int × Value)} (g : ∀ x ∈ l, GoodT w x) : ElemsOf (PySem.strKind P w) l := fun x hx => by
  obtain ⟨k, u, e1, e2⟩ := g x hx
  exact ⟨⟨k, by rw [e1]; exact is_strT k u, e2⟩, by rw [e1]; rfl⟩
theorem goodT_is {x : Int × Value} (g : GoodT w x) (k : Str) : (PySem.strKind P w).is k x.2 = true ↔ keyT x = k := by
  obtain ⟨z, u, e, _⟩ := g
  unfold keyT
  rw [e]
  show Value.isStrOf k (.str z u) = true ↔ z = k
  simp [Value.isStrOf]
theorem setT_tail {g : Bool → Sem Unit} (hg : ∀ (b : Bool) (s1 : Shared) (Q' : Unit → Shared → Prop), Q' () s1 → wpAny (model P w) A (g b) Q' E s1)
    {o : Obj} {es es1 : Array (Int × Value)} {ep : Nat} {t t2 : SetTable} (ho : s.heap.get? a = some o) (hex : o.ExactSet) (hd : o.data = .set es ep t) (g1 : ∀ x ∈ es1.toList, GoodT w x) (nd1 : (es1.toList.map keyT).Nodup) (m1 : ∀ k, k ∈ es1.toList.map keyT ↔ k ∈ ks)
    (hk1 : es1.size ≤ ks.length) (room : ks.length < scanBound) (hf2 : t2.fits es1.size = true) (hr : Ris t2.place.toList) (hl : w.params.followText "set-order" = true ∨ t2.led = true) {wasDummy : Bool} {R : Option Bool → Shared → Prop}
    (hR : ∀ h2, Heap.SameBut a s.heap h2 → SetT w h2 a ks → R (some true) { s with heap := h2 }) :
    wpAny (model P w) A (storeSet a es1 t2 >>= fun _ => if (!wasDummy && t2.tooFull) = true then (do
            g (relayAll t2 es1 (SetTable.grown es1.size)).2.2
            storeSet a (relayAll t2 es1 (SetTable.grown es1.size)).1 (relayAll t2 es1 (SetTable.grown es1.size)).2.1; pure (some true))
          else pure (some true)) R E s := by
  have hb1 : es1.size < scanBound := Nat.lt_of_le_of_lt hk1 room
  refine wpAny_bind (wpAny_storeSet_of ho hd ?_ (fits_of_scanBound hb1))
  have o1 := store_at (es' := es1) (t' := t2) ho hd
  have b1 := Heap.SameBut.update s.heap a (Obj.putSet es1 t2)
  by_cases c : (!wasDummy && t2.tooFull) = true
  · rw [if_pos c]
    have pm := relayAll_perm t2 es1 (SetTable.grown es1.size)
    have fit3 := relayAll_fits t2 es1 (SetTable.grown es1.size)
    have ris3 := relayAll_ris t2 es1 (SetTable.grown es1.size)
    have led3 := relayAll_led t2 es1 (SetTable.grown es1.size)
    generalize relayAll t2 es1 (SetTable.grown es1.size) = Z at pm fit3 ris3 led3 ⊢
    obtain ⟨es2, t3, gv⟩ := Z
    dsimp only at pm fit3 ris3 led3 ⊢
    have sz2 : es2.size = es1.size := by rw [← Array.length_toList, pm.length_eq, Array.length_toList]
    refine wpAny_bind (hg _ _ _ ?_)
    refine wpAny_bind (wpAny_storeSet_of o1 rfl ?_ (fits_of_scanBound (by rw [sz2]; exact hb1)))
    have o2 := store_at (es' := es2) (t' := t3) o1 rfl
    refine wpAny_pure (hR _ (b1.trans (Heap.SameBut.update _ a _)) ⟨_, es2, _, t3, o2, hex, rfl, fun x hx => g1 x (pm.mem_iff.mp hx), (pm.map keyT).nodup_iff.mpr nd1, fun k => (pm.map keyT).mem_iff.trans (m1 k), by rw [sz2]; exact hk1, fit3, ris3, ?_⟩)
    exact hl.imp id fun z => led3.trans z
  · rw [if_neg c]
    exact wpAny_pure (hR _ b1 ⟨_, es1, _, t2, o1, hex, rfl, g1, nd1, m1, hk1, hf2, hr, hl⟩)
theorem setT_add {k : Str} {u : Tok} {Q : Bool → Shared → Prop} (R : SetT w s.heap a ks) (room : ks.length + 1 < scanBound) (hQ : ∀ b h2, Heap.SameBut a s.heap h2 → SetT w h2 a (k :: ks) → Q b { s with heap := h2 }) :
    wpAny (model P w) A (setAddHashed a (.str k u) (hashStr w k)) Q E s := by
  obtain ⟨o, es, ep, t, ho, hex, hd, g, nd, hm, hk, hf, hr, hl⟩ := R
  have hkey : (PySem.strKind P w).is k (.str k u) = true := is_strT k u
  have hsc : (Value.str k u).scannable = true := rfl
  have hel : ElemsOf (PySem.strKind P w) es.toList := goodT_el g
  have hb : es.size < scanBound := by omega
  show wpAny (model P w) A (setAddHashed a (.str k u) ((PySem.strKind P w).hash k)) Q E s
  unfold setAddHashed setAddHashedIn
  refine wpAny_holding (wpAny_bind (wpAny_setState_of ho hd hf ?_))
  dsimp only
  rw [byScan_of hsc hb hel]
  simp only [↓reduceIte]
  unfold setAddByScan
  refine wpAny_bind (wpAny_bind (wpAny_rule (wpAny_bind (wpAny_setScan_of hkey ho hd hf hel ?_))))
  cases found : List.findIdx? (fun x => (PySem.strKind P w).is k x.2) es.toList with
  | some j =>
    dsimp only
    obtain ⟨hj, pj, _⟩ := List.findIdx?_eq_some_iff_getElem.mp found
    have there : k ∈ es.toList.map keyT := List.mem_map.mpr ⟨_, List.getElem_mem hj, (goodT_is (P := P) (g _ (List.getElem_mem hj)) k).mp pj⟩
    refine wpAny_pure (wpAny_pure (hQ _ s.heap (Heap.SameBut.refl a s.heap) ⟨o, es, ep, t, ho, hex, hd, g, nd, fun i => ?_, Nat.le_succ_of_le hk, hf, hr, hl⟩))
    rw [hm i, List.mem_cons]
    exact ⟨.inr, fun z => z.elim (fun e => (hm i).mp (e ▸ there)) id⟩
  | none =>
    dsimp only
    have fresh : k ∉ es.toList.map keyT := fun z => by
      obtain ⟨x, hx, q⟩ := List.mem_map.mp z
      have c := List.findIdx?_eq_none_iff.mp found x hx
      rw [(goodT_is (P := P) (g x hx) k).mpr q] at c
      cases c
    have gave : ∀ (b : Bool) {s1 : Shared} {Q' : Unit → Shared → Prop}, Q' () s1 → wpAny (model P w) A (match b with | true => rule "set.scan.the-table-gave-way" | false => pure ()) Q' E s1 :=
      fun b s1 Q' q => by cases b with
        | true => exact wpAny_rule q
        | false => exact wpAny_pure q
    have pm := layNew_perm t es ((PySem.strKind P w).hash k) (.str k u)
    have fit1 := layNew_fits t es ((PySem.strKind P w).hash k) (.str k u)
    have ris1 := layNew_ris t es ((PySem.strKind P w).hash k) (.str k u) hr
    have led1 := layNew_led t es ((PySem.strKind P w).hash k) (.str k u)
    generalize layNew t es ((PySem.strKind P w).hash k) (.str k u) = Z at pm fit1 ris1 led1 ⊢
    obtain ⟨es1, t1, dm, gv⟩ := Z
    dsimp only at pm fit1 ris1 led1 ⊢
    rw [Array.toList_push] at pm
    have pc : es1.toList.Perm (((PySem.strKind P w).hash k, Value.str k u) :: es.toList) := pm.trans (List.perm_append_singleton _ _)
    have pk : (es1.toList.map keyT).Perm (k :: es.toList.map keyT) := pc.map keyT
    have g1 : ∀ x ∈ es1.toList, GoodT w x := fun x hx => by
      rcases List.mem_cons.mp (pc.mem_iff.mp hx) with z | z
      · rw [z]; exact ⟨k, u, rfl, rfl⟩
      · exact g x z
    have nd1 := pk.nodup_iff.mpr (List.nodup_cons.mpr ⟨fresh, nd⟩)
    have m1 : ∀ i, i ∈ es1.toList.map keyT ↔ i ∈ k :: ks := fun i => by rw [pk.mem_iff, List.mem_cons, List.mem_cons, hm i]
    have sz1 : es1.size = es.size + 1 := by rw [← Array.length_toList, pc.length_eq, List.length_cons, Array.length_toList]
    have hk1 : es1.size ≤ (k :: ks).length := by rw [sz1, List.length_cons]; omega
    have led2 : w.params.followText "set-order" = true ∨ t1.led = true := hl.imp id fun z => led1.trans z
    refine wpAny_bind (gave _ ?_)
    by_cases hp : t1.plain = true
    · rw [if_pos hp]
      refine wpAny_bind ?_
      rw [hashByValue_scannable 8 hsc]
      refine wpAny_pure ?_
      refine setT_tail (ks := k :: ks) ?_ ho hex hd g1 nd1 m1 hk1 room ?_ ?_ ?_ ?_
      · exact fun b s1 Q' q => gave b q
      · first | exact SetTable.fits_plain_off fit1 | (split <;> first | exact fit1 | exact SetTable.fits_plain_off fit1)
      · first | exact ris1 | (split <;> exact ris1)
      · first | exact led2 | (split <;> exact led2)
      · exact fun h2 sb r => by dsimp only; exact wpAny_pure (hQ _ h2 sb r)
    · rw [if_neg hp]
      refine wpAny_bind (wpAny_pure ?_)
      simp only [↓reduceIte]
      refine setT_tail (ks := k :: ks) ?_ ho hex hd g1 nd1 m1 hk1 room fit1 ris1 led2 ?_
      · exact fun b s1 Q' q => gave b q
      · exact fun h2 sb r => by dsimp only; exact wpAny_pure (hQ _ h2 sb r)
theorem setT_fresh {h : Heap} : SetT w (h.push { cls := .type "set", dict := none, data := .set #[] 0 (.fresh 0 0 (!w.params.followText "set-order")) }) h.objs.size [] := by
  refine ⟨_, #[], 0, _, Heap.get?_push_size _ rfl, ⟨rfl, rfl, rfl⟩, rfl, fun x hx => by simp at hx, by simp, fun k => by simp, Nat.le_refl _, by rfl, List.Pairwise.nil, ?_⟩
  show _ ∨ (!w.params.followText "set-order") = true
  cases w.params.followText "set-order" with
  | true => exact .inl rfl
  | false => exact .inr rfl
end
section
variable {prog : Program} {w : World} {A : Around} {R : Result → Shared → Prop} {I S : Addr} {fp wr : List Addr} {G : Array GenState → Array GenState → Prop} {n : Nat} {St : Nat → Shared → Prop} {x : Str}
def sgn (x : Str) : List Str := x.cps.toList.map fun c => ⟨#[c]⟩
theorem setT_loop (W : WalksS prog w A.in1 I fp wr G n (SignAt x) St) (off : S ∉ fp) (hl : x.cps.size = n) (room : n + 1 < scanBound) :
    ∀ (k i : Nat) (s : Shared) (ks : List Str), i + k = n → St i s → SetT w s.heap S ks → ks.length = i → (∀ z, z ∈ ks ↔ z ∈ (sgn x).take i) → (∀ s' ks', Moved (S :: wr) G s s' → SetT w s'.heap S ks' → (∀ z, z ∈ ks' ↔ z ∈ sgn x) → ks'.length = n → R (.ok (.ret .none)) s') →
      codeAny (model prog w) A (.builtin "set.update.loop" ⟨[.ref S, .ref I], []⟩) R s
  | 0, i, s, ks, hk, hst, he, hki, hz, hR => by
    obtain rfl : i = n := hk
    refine codeAny_builtin PyProof.Rows.F.entry_set_update_loop ?_
    rw [Around.under_plainId PyProof.Rows.F.plain_set_update_loop _]
    refine wpAny_bind (W.done s _ _ hst fun s' hm => wpAny_pure (hR s' ks (hm.mono fun b hb => List.mem_cons_of_mem _ hb) (he.stay fun o e => hm.heap S o (fun h => off (W.sub _ h)) e) (fun z => ?_) hki))
    rw [hz z, List.take_of_length_le (by unfold sgn; rw [List.length_map, Array.length_toList]; omega)]
  | k + 1, i, s, ks, hk, hst, he, hki, hz, hR => by
    refine codeAny_builtin PyProof.Rows.F.entry_set_update_loop ?_
    rw [Around.under_plainId PyProof.Rows.F.plain_set_update_loop _]
    refine wpAny_bind (W.item i s _ _ (by omega) hst fun v s' hP hst' hm => ?_)
    obtain ⟨c, u, hc, rfl⟩ := hP
    have he2 : SetT w s'.heap S ks := he.stay fun o e => hm.heap S o (fun h => off (W.sub _ h)) e
    show wpAny _ A.in1 (holding [Value.str ⟨#[c]⟩ u] (setAdd S (.str ⟨#[c]⟩ u)) >>= _) _ _ s'
    refine wpAny_bind (wpAny_holding ?_)
    unfold setAdd
    refine wpAny_holding (wpAny_bind ((PySem.strKind prog w).pyHash (k := ⟨#[c]⟩) (is_strT _ _) ?_))
    refine setT_add (s := { s' with toks := s'.toks + 1 }) he2 (by omega) fun b h2 sb he3 => ?_
    refine wpAny_pure ⟨plainId_quiet PyProof.Rows.F.plain_set_update_loop _, setT_loop W off hl room k (i + 1) _ _ (by omega) (W.frame _ s' _ _ hst' (Nat.le_succ _) fun b hb o e => ?_) he3 (by rw [List.length_cons, hki]) (fun z => ?_) fun s2 ks2 hm2 he4 hz2 hn2 => ?_⟩
    · rw [sb.2 b (fun h => off (h ▸ hb))]; exact e
    · have hci : (sgn x)[i]? = some ⟨#[c]⟩ := by unfold sgn; rw [List.getElem?_map, Array.getElem?_toList, hc]; rfl
      rw [List.mem_cons, hz z, List.take_succ, hci, List.mem_append]
      show z = _ ∨ z ∈ (sgn x).take i ↔ z ∈ (sgn x).take i ∨ z ∈ [(⟨#[c]⟩ : Str)]
      rw [List.mem_singleton]
      exact Or.comm
    · refine hR s2 ks2 (Moved.trans W.gtrans ((hm.mono fun b hb => List.mem_cons_of_mem _ hb).then_heap (Nat.le_succ _) fun b o hb e => ?_) hm2) he4 hz2 hn2
      rw [sb.2 b (fun h => hb (by rw [h]; exact List.mem_cons_self))]; exact e
end
section
variable {prog : Program} {w : World} {A : Around} {E : Value → Shared → Prop} {s : Shared}
theorem set_of_text {x : Str} {t : Tok} {Q : Value → Shared → Prop} (hh : A.handled = none) (room : x.cps.size + 1 < scanBound)
    (h : ∀ (h' : Heap) (u : Nat) ks, SetT w h' s.heap.objs.size ks → (∀ z, z ∈ ks ↔ z ∈ sgn x) → ks.length = x.cps.size → (∀ b o, s.heap.get? b = some o → h'.get? b = some o) → Q (.ref s.heap.objs.size) { s with heap := h', toks := u }) :
    wpAny (model prog w) A (call (.type "set") [.str x t]) Q E s := by
  obtain ⟨c, tl, hmro⟩ := PySem.F.called_set.mro
  have hmade := PySem.F.called_set.made
  have hsub := PySem.F.called_set.sub
  refine wpAny_call (codeAny_of_tree ?_)
  refine wpAny_pure ⟨Code.quiet_builtin _ (by decide +kernel), codeAny_builtin PySem.F.entry_type_call ?_⟩
  rw [Around.under_plain (weight_type_call_type "set" [.str x t] []) rfl]
  have nt := PySem.F.called_set.notType
  have cc := PySem.F.called_set.canCreate
  have ct := PySem.F.typeCall_set_1 (.str x t)
  repeat (any_goals (first | assumption | wp_step))
  refine codeAny_mono (code_set_led1 (.str x t) (E := E) (Q₁ := fun obj s1 => obj = .ref s.heap.objs.size ∧ s1 = { s with heap := s.heap.push { cls := .type "set", dict := none, data := .set #[] 0 (.fresh 0 0 (!w.params.followText "set-order")) } }) ⟨rfl, rfl⟩) fun r s1 hr => ?_
  match r, hr with
  | .ok (.ret obj), hr =>
    obtain ⟨rfl, rfl⟩ := hr
    have f0 : SetT w _ s.heap.objs.size [] := setT_fresh (w := w) (h := s.heap)
    generalize (!w.params.followText "set-order") = led at f0 ⊢
    have hS : (s.heap.push (setO led)).get? s.heap.objs.size = some (setO led) := Heap.get?_push_size _ rfl
    have hTy : Shared.TypeIs { s with heap := s.heap.push (setO led) } (.ref s.heap.objs.size) "set" := ⟨_, hS, rfl⟩
    have li := PySem.F.called_set.init.lookup
    have bi := PySem.F.called_set.init.bind (.ref s.heap.objs.size)
    repeat (any_goals (first | assumption | wp_step))
    refine codeAny_mono (codeAny_call_builtin (R := wants (fun r s2 => r = .none ∧ ∃ h' u ks, s2 = { s with heap := h', toks := u } ∧ SetT w h' s.heap.objs.size ks ∧ (∀ z, z ∈ ks ↔ z ∈ sgn x) ∧ ks.length = x.cps.size ∧ (∀ b o, s.heap.get? b = some o → h'.get? b = some o)) E)
      PySem.F.called_set.init.plain PySem.F.entry_set_init (check_set_init_1 hTy ?_)) fun r2 s2 hr2 => ?_
    · have ne : (Value.type "str" == Value.type "dict") = false := by decide
      have ss := PySem.F.sub_str_set
      have sf := PySem.F.sub_str_frozenset
      unfold Builtin.«set.__init__» noKeywords Builtin.Frozenset.updateFrom
      generalize hPI : pyIter = PI
      wp_walk
      subst hPI
      refine wpAny_pyIter_str fun o St hW hst => ?_
      refine wpAny_bind (wpAny_runValue ?_)
      have hz : (s.heap.push (setO led)).objs.size = s.heap.objs.size + 1 := Heap.size_push ..
      have off : s.heap.objs.size ∉ [(s.heap.push (setO led)).objs.size] := by
        rw [hz, List.mem_singleton]
        exact Nat.ne_of_lt (Nat.lt_succ_self _)
      refine setT_loop (n := x.cps.size) (R := _) ((hW A.in1.in1.in1 (by simp [hh])).toS) off rfl room x.cps.size 0 _ [] (Nat.zero_add _) hst (f0.stay fun o' e => Heap.get?_push_of_some _ e) rfl (fun z => by simp) fun s' ks' hm hS' hz' hn' => ?_
      obtain ⟨h', g', d', tk', os'⟩ := s'
      obtain rfl : g' = s.gens := hm.gens
      obtain rfl : d' = s.drawn := hm.drawn
      obtain rfl : os' = s.os := hm.os
      refine wpAny_pure (wpAny_pure ⟨rfl, h', tk', ks', rfl, hS', hz', hn', fun b o' e => ?_⟩)
      have hb : b < s.heap.objs.size := Heap.lt_size e
      refine hm.heap b o' (fun hmem => ?_) (Heap.get?_push_of_some _ (Heap.get?_push_of_some _ e))
      have e' : b = s.heap.objs.size ∨ b = (s.heap.push (setO led)).objs.size := by simpa using hmem
      rcases e' with e' | e'
      · exact Nat.ne_of_lt hb e'
      · rw [hz] at e'; exact Nat.ne_of_lt (Nat.lt_succ_of_lt hb) e'
    · match r2, hr2 with
      | .ok (.ret r), hr2 =>
        obtain ⟨rfl, h', u, ks, rfl, hS', hz', hn', hk'⟩ := hr2
        repeat (any_goals (first | assumption | wp_step))
        exact h _ _ _ hS' hz' hn' hk'
      | .error e, hr2 => exact hr2
  | .error e, hr => exact hr
theorem sorted_setX {a : Addr} {ks : List Str} {Q : Value → Shared → Prop} (R : SetT w s.heap a ks) (hh : A.handled = none) (h64 : ks.length < 64)
    (hQ : ∀ s' p (out : Array Value) (c : Nat) (ss : List Str), (∀ b o, s.heap.get? b = some o → s'.heap.get? b = some o) → s'.gens = s.gens → s'.os = s.os → s.heap.objs.size ≤ p → s'.heap.get? p = some (seqObj "list" out c) →
      StrsAre out.toList ss → sortedS ss = true → ss.Nodup → (∀ k, k ∈ ss ↔ k ∈ ks) → ss.length ≤ ks.length → Q (.ref p) s') : wpAny (model prog w) A (call (.builtin "sorted") [.ref a]) Q E s := by
  obtain ⟨o, es, ep, t, ho, hex, hd, g, nd, hm, hk, hf, hr, hl⟩ := R
  refine Calls.call_function_entry kind_sorted plain_sorted entry_sorted (args_sorted1 _) ?_
  unfold Builtin.«sorted»
  refine wpAny_bind (m := checkCount "sorted" 1 1 _) (wpAny_pure (wpAny_bind (collect_set (A := A.in1) hh ⟨o, ho, hex.1, hd⟩ hf (by unfold scanBound; omega) hr hl fun s1 vs k1 hz g1 o1 pm => ?_)))
  have hvl : vs.length ≤ ks.length := by rw [pm.length_eq, List.length_map, Array.length_toList]; exact hk
  have isT : ∀ v ∈ vs, ∃ (k : Str) (u : Tok), v = Value.str k u := fun v hv => by
    obtain ⟨e, he, q⟩ := List.mem_map.mp (pm.mem_iff.mp hv)
    obtain ⟨k, u, h1, _⟩ := g e he
    exact ⟨k, u, by rw [← q]; exact h1⟩
  have hS : StrsAre vs (vs.map fun v => keyT (0, v)) := by
    clear pm hvl
    induction vs with
    | nil => exact .nil
    | cons v r ih =>
      obtain ⟨k, u, rfl⟩ := isT v List.mem_cons_self
      exact .cons _ _ (ih fun x hx => isT x (List.mem_cons_of_mem _ hx))
  have pk : (vs.map fun v => keyT (0, v)).Perm (es.toList.map keyT) := by
    have q := pm.map fun v => keyT (0, v)
    rw [List.map_map] at q
    exact q
  refine wpAny_bind (wpAny_newList ?_ (by rw [sizeLine_eq]; omega))
  have hoL : (s1.heap.push (seqObj "list" vs.toArray 0)).get? s1.heap.objs.size = some (seqObj "list" vs.toArray 0) := Heap.get?_push_size _ rfl
  refine wpAny_bind (wpAny_holding (wpAny_call_entry slot_list_sort ⟨_, hoL, rfl⟩ entry_list_sort
    (list_sort_treeK strKind_oneLt (s := { s1 with heap := s1.heap.push (seqObj "list" vs.toArray 0) }) hoL hS.keysOf (fun v1 v2 rest e => keyKind_strs (by rw [← e]; exact hS)) (by omega) fun st' hp hs => ⟨_, rfl, ?_⟩) (args_list_sort _)))
  obtain ⟨ys, y1, y2, y3⟩ := sorted_out_str hS hp hs
  obtain ⟨c, hc⟩ := sortedHeap_at (vs := vs) (out := (arrOf st').map (·.2)) hoL
  have pn := y2.trans pk
  refine wpAny_pure ⟨_, rfl, hQ _ s1.heap.objs.size _ c ys (fun b u e => ?_) g1 o1 hz hc y1 y3 (pn.nodup_iff.mpr nd) (fun k => by rw [pn.mem_iff, hm k]) (by rw [pn.length_eq, List.length_map, Array.length_toList]; exact hk)⟩
  have q := k1 b u e
  have hlt := Heap.lt_size q
  show (sortedHeap (s1.heap.push (seqObj "list" vs.toArray 0)) s1.heap.objs.size vs _).get? b = some u
  rw [sortedHeap_old (Nat.ne_of_lt hlt) (by rw [size_push']; exact Nat.lt_succ_of_lt hlt)]
  exact Heap.get?_push_of_some _ q
end
section
variable {X : Cx}
theorem singles_of : ∀ {ss : List Str} {l : List Nat}, (∀ k ∈ ss, ∃ c ∈ l, k = S [c]) → ∃ ds : List Nat, ss = ds.map fun d => S [d]
  | [], _, _ => ⟨[], rfl⟩
  | k :: ss, l, h => by
    obtain ⟨c, _, rfl⟩ := h k List.mem_cons_self
    obtain ⟨ds, rfl⟩ := singles_of (ss := ss) (l := l) fun x hx => h x (List.mem_cons_of_mem _ hx)
    exact ⟨c :: ds, rfl⟩
theorem sortX_run {pins : List (Addr × Obj)} {σ : L2.St} {H1 : Hp} {Q : VK} {s1 : Shared} {a : Addr} {ks : List Str} {l : List Nat} (hc : X.calm = true) (I2 : Inv X pins σ H1 s1) (hS : SetT X.w s1.heap a ks) (hz : ∀ z, z ∈ ks ↔ z ∈ sgn (S l)) (hn : ks.length = (S l).cps.size) (hl : l.length < 60)
    (q1 : ∀ (p : Addr) (ds : List Nat), H1 p = none → ds.Pairwise (· < ·) → (∀ c, c ∈ ds ↔ c ∈ l) → Q (.ref p) (upd H1 p (.lst (ds.map fun d => .str (S [d]))))) : wpAny (model X.prog X.w) X.A (call (.builtin "sorted") [.ref a]) (EP X pins σ Q) X.xe s1 := by
  have hsz : (S l).cps.size = l.length := by simp [S]
  refine sorted_setX hS (I2.ok.hd hc) (by rw [hn, hsz]; omega) fun s' p out c ss k2 g2 o2 hp ho hS2 srt nd mem hle => ?_
  have hmem : ∀ k, k ∈ ss ↔ ∃ c ∈ l, k = S [c] := fun k => by
    rw [mem k, hz k]
    unfold sgn
    rw [List.mem_map]
    constructor
    · rintro ⟨c, hc, rfl⟩; exact ⟨c, by simpa [S] using hc, rfl⟩
    · rintro ⟨c, hc, rfl⟩; exact ⟨c, by simpa [S] using hc, rfl⟩
  obtain ⟨ds, rfl⟩ := singles_of fun k hk => (hmem k).mp hk
  have ndd : ds.Nodup := List.Pairwise.of_map (fun d => S [d]) (fun a b hne e => hne (by rw [e])) nd
  have hn2 : H1 p = none := I2.hok.fresh hp
  have hlen : ((ds.map fun d => S [d]).map V.str).length ≤ sizeLine := by
    rw [List.length_map, List.length_map, sizeLine_eq]
    rw [List.length_map, hn, hsz] at hle
    omega
  have J : Inv X pins σ (upd H1 p (.lst ((ds.map fun d => S [d]).map V.str))) { s1 with heap := s'.heap, gens := s'.gens, drawn := s'.drawn, toks := s'.toks } :=
    I2.call (ch := []) (Un.laid k2 hp hn2) (I2.hok.laid k2 hp ⟨hlen, out.toList, c, vals_of_strs hS2, ho⟩) (by rw [g2]; exact I2.bare) (fun _ z => nomatch z)
  have e : s' = { s1 with heap := s'.heap, gens := s'.gens, drawn := s'.drawn, toks := s'.toks } := by
    cases s'; cases s1; cases o2; rfl
  rw [e]
  have eL : ((ds.map fun d => S [d]).map V.str) = ds.map fun d => V.str (S [d]) := by rw [List.map_map]; rfl
  rw [eL] at J
  exact ⟨.ref p, _, J, rfl, q1 p ds hn2 (strict_of (sorted_singles srt) ndd) fun c => ⟨fun hc => by
    obtain ⟨e, he, ec⟩ := (hmem (S [c])).mp (List.mem_map.mpr ⟨c, hc, rfl⟩)
    have : c = e := by simpa [S] using ec
    rw [this]; exact he, fun hc => by
    obtain ⟨d, hd, ed⟩ := List.mem_map.mp ((hmem (S [c])).mpr ⟨c, hc, rfl⟩)
    have : d = c := by simpa [S] using ed
    rw [← this]; exact hd⟩⟩
def tSortSet (ta : TE) : TE := fun σ H Q => ta σ H fun x H1 => ∃ l : List Nat, x = .str (S l) ∧ l.length < 60 ∧ ∀ (p : Addr) (ds : List Nat), H1 p = none → ds.Pairwise (· < ·) → (∀ c, c ∈ ds ↔ c ∈ l) → Q (.ref p) (upd H1 p (.lst (ds.map fun d => .str (S [d]))))
theorem pe_sortSet {a : Expr} {ta : TE} {p p2 q pos : Pos} (hc : X.calm = true) (hg : Gl X "sorted") (hm : X.mg "sorted" = none) (hg2 : Gl X "set") (hm2 : X.mg "set" = none) (ha : PE X a ta)
    (na : starEach [a] X.env = (false, eval a X.env) :: starEach [] X.env := by rfl) : PE X (.Call (.Name "sorted" p) [.Call (.Name "set" p2) [a] [] q] [] pos) (tSortSet ta) := by
  refine ⟨fun pins s σ H Q I h => ?_⟩
  refine Call_ (ld_blt I hg hm PyProof.Rows.boot_sorted (PyProof.Rows.callWith_builtin1 (PyProof.Rows.args_cons ?_ rfl) rfl rfl))
  refine Call_ (ld_blt I hg2 hm2 PyProof.Rows.boot_set (PyProof.Rows.callWith_type1 (PyProof.Rows.args_cons (thn (ha.run pins s σ H _ I h) fun v s1 ⟨x, H1, I1, r1, q1⟩ => PyProof.Rows.args_nil ?_) na) na rfl))
  obtain ⟨l, rfl, hl, q1⟩ := q1
  obtain ⟨t, rfl⟩ := r1
  have hsz : (S l).cps.size = l.length := by simp [S]
  refine set_of_text (I1.ok.hd hc) (by rw [hsz]; unfold scanBound; omega) fun h' u ks hS hz hn hk => ?_
  refine PyProof.Rows.args_nil ?_
  exact sortX_run (s1 := { s1 with heap := h', toks := u }) hc (I1.kept hk) hS hz hn hl q1
end
end LX
set_option maxHeartbeats 4000000
namespace LX
open PySem PySem.Spec PyProof.Rows L2 C8 SX
section
variable {prog : Program} {w : World} {A : Around} {E : Value → Shared → Prop} {s : Shared} {K : PySem.W.Frag} {a C f : Addr} {ox : Obj} {od : Option Obj} {u : Value} {T id : String}
theorem rc_own_second (hu : A.units < cLine) (X : K.In s.heap) (I : PySem.W.InstAt s.heap a ox C od) (hT : s.TypeIs u T) (h1 : oneThing? .Eq u (.ref a) = none) (hsub : PySem.W.subIn K (.ref C) (.type T) = some false) (sl : Slot T (cmpInfo .Eq).2.1 id)
    (hs : PySem.W.findIn K (.ref C) "__eq__" = some (some (.ref f))) (hf : PySem.W.isFn K (.ref f) = true) {Q : Value → Shared → Prop}
    (hc1 : ∀ Q' : Value → Shared → Prop, Q' .notImplemented s → wpAny (model prog w) A (call (.builtin id) [u, .ref a]) Q' E s)
    (hc2 : wpAny (model prog w) A (call (.ref f) [.ref a, u]) (PySem.W.CmpBack Q) E s) : wpAny (model prog w) A (richCompare .Eq u (.ref a)) Q E s := by
  have two : wpAny (model prog w) A (tryCompare (.ref a) (cmpInfo .Eq).2.2 u) (fun r s' => ∃ v, r = some v ∧ Q v s') E s := by
    unfold tryCompare
    refine wpAny_bind (PySem.W.ifBound_K X I hs hf (wpAny_mono hc2 (fun v s' hv => ?_) fun _ _ e => e))
    cases v <;> first | exact hv.elim | exact wpAny_pure ⟨_, rfl, hv⟩
  unfold richCompare
  simp only [h1]
  refine wpAny_holding (wpAny_bind (wpAny_cRoomFor hu ?_))
  refine wpAny_bind (wpAny_typeOf hT (wpAny_bind (I.type.here ?_)))
  rw [show (Value.type T != Value.ref C) = true from rfl]
  simp only [if_true]
  refine wpAny_bind ((PySem.W.looks_subIn X hsub).here ?_)
  simp only [Bool.false_eq_true, if_false, Bool.not_false, if_true]
  refine wpAny_bind (m := tryCompare u _ (.ref a)) (wpAny_tryCompare_declines hT sl (hc1 _ ⟨rfl, ?_⟩))
  refine wpAny_bind (m := tryCompare (.ref a) _ u) (wpAny_mono two (fun r s' z => ?_) fun _ _ e => e)
  obtain ⟨v, rfl, q⟩ := z
  exact wpAny_pure q
theorem none_declines {Q : Value → Shared → Prop} (h : Q .notImplemented s) : wpAny (model prog w) A (call (.builtin "NoneType.__eq__") [.none, .ref a]) Q E s :=
  call_gives F.slot_NoneType_eq rfl F.entry_NoneType_eq (F.args_NoneType_eq_2 _ _) (PySem.SeqAt.NoneType___eq___none_ref_0 a) h
theorem str_declines {dx : Addr} {x : Str} {t : Tok} {Q : Value → Shared → Prop} (hx : s.heap.get? a = some (PySem.W.instObj C dx)) (h : Q .notImplemented s) : wpAny (model prog w) A (call (.builtin "str.__eq__") [.str x t, .ref a]) Q E s := by
  refine wpAny_call (codeAny_call_builtin F.slot_str_eq.plain F.entry_str_eq (F.slot_str_eq.check _ _ _ _ _ _ _ _ rfl (F.args_str_eq_2 _ _) ?_))
  obtain ⟨hp, g, d, tk, os⟩ := s
  wp_walk using wpAny_load hx
  exact h
theorem list_declines {dx l : Addr} {items : Array Value} {Q : Value → Shared → Prop} (hl : s.heap.IsList l items) (X : K.In s.heap) (hx : s.heap.get? a = some (PySem.W.instObj C dx)) (hsub : PySem.W.subIn K (.ref C) (.type "list") = some false) (h : Q .notImplemented s) :
    wpAny (model prog w) A (call (.builtin "list.__eq__") [.ref l, .ref a]) Q E s := by
  obtain ⟨⟨cls, dd, data, sl⟩, ho, hc, n, hd⟩ := id hl
  simp only at hc hd
  subst hc hd
  refine wpAny_call (codeAny_call_builtin F.slot_list_eq.plain F.entry_list_eq (F.slot_list_eq.check _ _ _ _ _ _ _ _ ⟨_, ho, rfl⟩ (F.args_list_eq_2 _ _) ?_))
  obtain ⟨hp, g, d, tk, os⟩ := s
  wp_walk using PySem.AutoSeq1.wpAny_loadPart' hx
  refine (PySem.W.looks_subIn X hsub).here ?_
  wp_walk
  exact h
theorem in_tuple_none {l : Addr} {items : Array Value} {x : Value} {Q : Value → Shared → Prop} (J : Shared → Prop) (hl : s.heap.IsTuple l items) (h0 : J s)
    (turn : ∀ y s', y ∈ items → J s' → wpAny (model prog w) A.in1 (eqBool y x) (fun b s2 => b = false ∧ J s2) E s') (fin : ∀ s', J s' → Q (.bool false) s') : wpAny (model prog w) A (compareOp .In x (.ref l)) Q E s := by
  obtain ⟨⟨cls, dd, data, sl⟩, ho, hc, n, hd⟩ := id hl
  simp only at hc hd
  subst hc hd
  show wpAny _ A (do return .bool (← contains (.ref l) x)) Q E s
  refine wpAny_bind (wpAny_contains_slot ⟨_, ho, rfl⟩ F.slot_tuple_contains (wpAny_mono (Q := fun v s' => v = .bool false ∧ J s') (wpAny_call (codeAny_call_builtin F.slot_tuple_contains.plain F.entry_tuple_contains
    (F.slot_tuple_contains.check _ _ _ _ _ _ _ _ ⟨_, ho, rfl⟩ (F.args_tuple_contains_2 _ _) ?_))) (fun v s' hv => ?_) fun _ _ e => e))
  · obtain ⟨hp, g, d, tk, os⟩ := s
    wp_walk using PySem.AutoSeq1.wpAny_loadPart' ho, PySem.MeetsSeq2.wpAny_forIn_array _ (fun (rest : List Value) (b : Option PySem.Fin × Unit) (s' : Shared) => b.1 = none ∧ J s' ∧ ∀ y, y ∈ rest → y ∈ items) _
    case turn =>
      rintro y rest b s' ⟨hb, hJ, hmem⟩
      refine wpAny_bind (wpAny_mono (turn y s' (hmem y (List.mem_cons_self ..)) hJ) (fun r s2 z => ?_) fun _ _ e => e)
      obtain ⟨rfl, hJ2⟩ := z
      wp_walk
      exact ⟨rfl, hJ2, fun z hz => hmem z (List.mem_cons_of_mem _ hz)⟩
    case fin =>
      rintro ⟨b1, b2⟩ s' ⟨hb, hJ, -⟩
      simp only at hb
      subst hb
      wp_walk
      exact ⟨rfl, hJ⟩
    case h => exact ⟨rfl, h0, fun y hy => by simpa using hy⟩
  · obtain ⟨rfl, hJ⟩ := hv
    exact wpAny_truthy_bool (wpAny_pure (fin s' hJ))
end
section
variable {X : Cx} {k j : Nat} {C : Addr} {sp : Sp}
def Plain0 (H : Hp) (z : V) : Prop := (∃ x, z = .str x) ∨ z = .non ∨ ∃ l xs, z = .ref l ∧ H l = some (.lst xs)
structure NotB (K : PySem.W.Frag) (C : Addr) : Prop where
  str : PySem.W.subIn K (.ref C) (.type "str") = some false
  non : PySem.W.subIn K (.ref C) (.type "NoneType") = some false
  lst : PySem.W.subIn K (.ref C) (.type "list") = some false
def rInOwn (K : PySem.W.Frag) (C : Addr) (sp : Sp) : R2 := fun x y H Q => ∃ a dx fs p xs, x = .ref a ∧ y = .ref p ∧ H a = some (.ins C dx fs) ∧ SqT K H p xs ∧ (∀ z ∈ xs, Plain0 H z ∧ ∀ R : VK, R (.bl false) H → sp [.ref a, z] H R C8.E0) ∧ Q (.bl false) H
theorem vals_mem : ∀ {xs : List V} {us : List Value}, Vals xs us → ∀ u ∈ us, ∃ x ∈ xs, RelV x u
  | _, _, .nil, _, h => nomatch h
  | _, _, .cons r t, u, h => by
    rcases List.mem_cons.mp h with e | h
    · rw [e]; exact ⟨_, List.mem_cons_self, r⟩
    · obtain ⟨x, hx, r⟩ := vals_mem t u h
      exact ⟨x, List.mem_cons_of_mem _ hx, r⟩
theorem op_inOwn (b : NotB X.K C) (c : Met X.prog X.w X.K X.mg X.base k C "__eq__" sp []) (hr : Room j X.A) (hk : k + 1 ≤ j) : OpR X (compareOp .In) (rInOwn X.K C sp) := by
  intro pins s σ H x y v u Q I rx ry h
  obtain ⟨a, dx, fs, p, xs, rfl, rfl, ha, hp, all, q⟩ := h
  cases rx
  cases ry
  obtain ⟨its, r, pl, hz⟩ := I.tuple hp
  refine in_tuple_none (J := fun s' => Inv X pins σ H s') pl I (fun z s' hz J => ?_) (fun s' J => ⟨.bl false, H, J, rfl, q⟩)
  obtain ⟨zv, hzm, rz⟩ := vals_mem r z (by simpa using hz)
  obtain ⟨pz, sz⟩ := all zv hzm
  obtain ⟨mA, O, _⟩ := ins_get J.hok ha
  have hobj := O.obj
  obtain ⟨od, O, _⟩ := O.look
  have hu : (X.A.in1).units < cLine := hu_of hr
  obtain ⟨f, hs, hf, hw⟩ := met_runV (A := X.A.in1) (Q := PySem.W.CmpBack fun v s2 => v = .bool false ∧ Inv X pins σ H s2) c (hr.mono hk).in1 rfl J rz (sz (fun v H' => v = .bl false ∧ H' = H) ⟨rfl, rfl⟩) (fun v z H' s' I' rz q => by
    obtain ⟨rfl, rfl⟩ := q
    cases rz
    exact ⟨rfl, I'⟩)
  have back : wpAny (model X.prog X.w) X.A.in1 (richCompare .Eq z (.ref a)) (fun v s2 => v = .bool false ∧ Inv X pins σ H s2) X.xe s' := by
    rcases pz with ⟨t, rfl⟩ | rfl | ⟨l, ys, rfl, hl⟩
    · obtain ⟨tk, rfl⟩ := rz
      exact rc_own_second (u := .str t tk) (T := "str") hu J.kIn O rfl rfl b.str F.slot_str_eq hs hf (fun Q' h' => str_declines hobj h') hw
    · cases rz
      exact rc_own_second (u := .none) (T := "NoneType") hu J.kIn O rfl rfl b.non F.slot_NoneType_eq hs hf (fun Q' h' => none_declines h') hw
    · cases rz
      obtain ⟨its2, r2, pl2, _⟩ := J.list (SqL.of hl)
      have hT : s'.TypeIs (.ref l) "list" := let ⟨o, e1, e2, _⟩ := pl2.isList; ⟨o, e1, e2⟩
      exact rc_own_second hu J.kIn O hT rfl b.lst F.slot_list_eq hs hf (fun Q' h' => list_declines pl2.isList J.kIn hobj b.lst h') hw
  unfold eqBool
  refine wpAny_holding ?_
  refine wpAny_ite_split (fun hab => ?_) (fun _ => ?_)
  · exfalso
    have e := eq_of_beq hab
    subst e
    rcases pz with ⟨t, rfl⟩ | rfl | ⟨l, ys, rfl, hl⟩
    · obtain ⟨tk, e⟩ := rz; cases e
    · cases rz
    · cases rz; rw [ha] at hl; cases hl
  have go : wpAny (model X.prog X.w) X.A.in1 (richCompare .Eq z (.ref a) >>= truthOfDropped) (fun b s2 => b = false ∧ Inv X pins σ H s2) X.xe s' := by
    refine wpAny_bind (wpAny_mono back (fun v s2 hv => ?_) fun _ _ e => e)
    obtain ⟨rfl, I2⟩ := hv
    exact wpAny_truthy_bool ⟨rfl, I2⟩
  rcases pz with ⟨t, rfl⟩ | rfl | ⟨l, ys, rfl, hl⟩
  · obtain ⟨tk, rfl⟩ := rz; exact go
  · cases rz; exact go
  · cases rz; exact go
def tMakeSL (i : Nat) (C : Addr) (sp : Sp) (E : L2.St → XK) (t : TA) : TE := fun σ H Q => σ[i]? = some (some (.ref C)) ∧ tMakeS C sp E t σ H Q
theorem pe_mkXL {i : Nat} {x n : Str} {p pos : Pos} {e : Expr} {es : List Expr} {t : TA} {W : WX} (c : MakX X.prog X.w X.K X.mg X.base k n C sp) (tk : Takes X W) (hr : Room j X.A) (hk : k + 1 ≤ j) (hN : X.N[i]? = some x) (hv : Vis X.env.scope x) (ha : PA X (e :: es) t)
    (hd : (x == ("__debug__" : Str)) = false := by decide) (hcd : (x == ("__classdict__" : Str)) = false := by decide)
    (he : starEach (e :: es) X.env = (false, eval e X.env) :: starEach es X.env := by rfl) (hpl : (backTo pos (starEach es X.env)).any (·.1) = false := by rfl) : PE X (.Call (.Name x p) (e :: es) [] pos) (tMakeSL i C sp (WE W) t) := by
  obtain ⟨f, fd, ps, M, F, hm, hb⟩ := c.ex
  refine ⟨fun pins s σ H Q I h => ?_⟩
  obtain ⟨hs, h⟩ := h
  refine wpAny_Call_Name_kw (thn ((pe_var (pos := p) hN hv hd hcd).run pins s σ H (fun v H1 => v = .ref C ∧ H1 = H) I ⟨.ref C, hs, rfl, rfl⟩) fun u s0 ⟨v, H0, I0, r0, ev, eH⟩ => ?_)
  subst ev
  rw [eH] at I0
  obtain rfl : u = Value.ref C := r0
  refine PySem.W.callWith_K (h₀ := X.base) I.ok.mod.kin M.kp (thn (ha.run pos pins s0 σ H _ I0 h) fun us s1 ⟨vs, H1, I1, r, q⟩ => ⟨I1.kIn, ?_⟩) he hpl
  have hq := q (s1.heap.objs.size + 1) s1.heap.objs.size (I1.hok.fresh (Nat.le_succ _)) (I1.hok.fresh (Nat.le_refl _)) (Nat.ne_of_lt (Nat.lt_succ_self _))
  have I2 := Inv.made (C := C) I1
  have r2 : Vals (V.ref (s1.heap.objs.size + 1) :: vs) (Value.ref (s1.heap.objs.size + 1) :: us) := .cons rfl r
  have hl : (Value.ref (s1.heap.objs.size + 1) :: us ++ []).length = ps.length := by
    have e := r2.length
    rw [F.len _ _ _ _ hq] at e
    rw [List.append_nil]
    exact e.symm
  have hb2 := hb _ (Value.ref (s1.heap.objs.size + 1) :: us) I2.kIn hl
  rw [List.append_nil] at hb2
  refine wpAny_call (make_map (f := f) I1.kIn M.makes M.init (beq_iff_eq.mp M.fn) (codeAny_mono (F.run _ X.stack _ _ ⟨Value.ref (s1.heap.objs.size + 1) :: us, []⟩ (Value.ref (s1.heap.objs.size + 1) :: us) _ _ (WE W σ) ((hr.mono hk).make C us [])
    (I2.env0.make C us []) hb2 r2 hq) fun r s' hq' => ?_))
  cases r with
  | error e => exact passAt tk σ pins _ _ e s' I2 hq'
  | ok fl =>
    cases fl with
    | ret u =>
      obtain ⟨v, H', I3, rv, ev, q3⟩ := I2.after hq'
      subst ev
      exact ⟨rv, ⟨V.ref (s1.heap.objs.size + 1), H', I3, rfl, q3⟩⟩
    | next => exact False.elim hq'
    | brk => exact False.elim hq'
    | cont => exact False.elim hq'
end
end LX
set_option maxHeartbeats 2000000
namespace Toy
open PySem L2 C8 SX LX
local macro_rules | `(tactic| walk_at "c") => `(tactic| refine And.intro (by first | (show (0 : Int) < _; omega) | exact Or.inr ⟨by decide, by decide⟩ | exact Or.inl ⟨by decide, by decide⟩ | (exact ⟨by omega, by omega⟩)) ?_)
local macro_rules | `(tactic| walk_at "s1") => `(tactic| first | refine ⟨_, rfl, ?_⟩ | refine ⟨_, _, rfl, rfl, ?_⟩ | refine .inl ⟨_, rfl, ?_⟩ | walk_at "c")
local macro_rules | `(tactic| walk_at "ix") => `(tactic| refine ⟨_, _, _, _, rfl, rfl, SqL.of (by first | assumption | exact upd_same), rfl, ?_⟩)
local macro_rules | `(tactic| walk_at "s") => `(tactic| repeat (walk_at "s1"))
def top (i : Nat) : Stmt := PySem.Challenge.pw_allrows_k61_overlaps_open_or_not.main.body.getD i (.Pass ⟨0, 0, 0, 0⟩)
structure BT (mg : Str → Option Value) : Prop where
  m_int : mg "int" = none
  m_len : mg "len" = none
  m_abs : mg "abs" = none
  m_str : mg "str" = none
  m_list : mg "list" = none
  m_tuple : mg "tuple" = none
  m_isinstance : mg "isinstance" = none
  m_all : mg "all" = none
  m_any : mg "any" = none
  m_zip : mg "zip" = none
  m_range : mg "range" = none
  m_max : mg "max" = none
  m_min : mg "min" = none
  m_enumerate : mg "enumerate" = none
  m_repr : mg "repr" = none
  m_sorted : mg "sorted" = none
def sgs : List (List Nat) := [[97, 98], [97, 98, 99], [97], [120, 122]]
def Menu (sg : List Nat) : Prop := sg ∈ sgs
def Ov (sg l : List Nat) : Prop := ∀ c ∈ l, c ∈ sg
section
variable {P : Program} {w : World} {K : PySem.W.Frag} {mg : Str → Option Value} {base : Heap}
abbrev s_take : Stmt := top 22
abbrev n_take : List Str := ["box", "many", "digit", "near"]
theorem sc_take : FnScope n_take ["box", "many"] (fnScope s_take) := fnScope_by (by decide +kernel)
def spTake : Sp := fun vs H Q _ => ∃ (b : Addr) (n : Int), vs = [.ref b, .int n] ∧ BoxAt b H ∧ 0 < n ∧ n < 100000000 ∧
  ∀ (d : Int) (H' : Hp), 0 ≤ d → d < n → Bx b H H' → Q (.int d) H'
theorem ok_take (T : BT mg) {f : Addr} {fd : FuncData} (F : Def K mg "_law_take" s_take f fd) (b : Binds K fd ["box", "many"] []) : Cal P w K mg base 1 "_law_take" spTake [] := by
  refine cal0 F b .nil sc_take (fun vs H Q E h => ?_) (fun cdv A outer s H vs Q E hr h => ?_)
  · obtain ⟨b, n, rfl, _⟩ := h; rfl
  · obtain ⟨b, n, rfl, ⟨o, hb, x, y, z, rfl⟩, n0, n1, k⟩ := h
    refine ⟨_, (pss_cons (ps_if (pt_cmpR op_gt (pe_ix (ixl K) (pv 0) pe_int (fun _ _ => rfl)) pe_int (nomark _)) 
        (pss_cons (ps_set (i := 2) sc_take.nd rfl (.inl rfl) (pe_op op_mod (pe_callTy call_int1 (by rfl) T.m_int PyProof.Rows.boot_int (pa_cons (pe_ix (ixl K) (pv 0) pe_int (fun _ _ => rfl)) pa_nil)) (pv 1)))
        (pss_cons (ps_asg (pe_op op_fdiv (pe_ix (ixl K) (pv 0) pe_int (fun _ _ => rfl)) (pv 1)) (pg_sub (pv 0) pe_int set_list))
        (pss_one (ps_ret (pv 2))
        )))
       pss_nil)
      (pss_cons (ps_asg (pe_op op_add (pe_ix (ixl K) (pv 0) pe_int (fun _ _ => rfl)) pe_int) (pg_sub (pv 0) pe_int set_list))
      (pss_cons (ps_set (i := 3) sc_take.nd rfl (.inl rfl) (pe_op op_mod (pe_callTy call_int1 (by rfl) T.m_int PyProof.Rows.boot_int (pa_cons (pe_op op_mul (pe_op op_add (pe_ix (ixl K) (pv 0) pe_int (fun _ _ => rfl)) (pe_op op_mul pe_int (pe_ix (ixl K) (pv 0) pe_int (fun _ _ => rfl)))) pe_int) pa_nil)) pe_int))
      (pss_cons (ps_asg (pe_op op_add (pe_op op_mod (pe_callTy call_int1 (by rfl) T.m_int PyProof.Rows.boot_int (pa_cons (pe_op op_add (pe_op op_mul (pv 3) pe_int) pe_int) pa_nil)) pe_int) pe_int) (pg_sub (pv 0) pe_int set_list))
      (pss_one (ps_ret (pe_op op_mod (pe_callTy call_int1 (by rfl) T.m_int PyProof.Rows.boot_int (pa_cons (pe_op op_fdiv (pe_op op_add (pe_op op_mul (pv 3) pe_int) (pe_ix (ixl K) (pv 0) pe_int (fun _ _ => rfl))) pe_int) pa_nil)) (pv 1)))
      ))))), ?_⟩
    walk_at "s"
    walk_at "ix"
    walk_at "s"
    refine ite2 (fun _ => ?_) (fun _ => ?_)
    · walk_at "s"
      walk_at "ix"
      walk_at "s"
      walk_at "ix"
      walk_at "s"
      refine ⟨_, _, _, _, rfl, rfl, hb, rfl, ?_⟩
      walk_at "s"
      exact k _ _ (Int.emod_nonneg _ (by omega)) (Int.emod_lt_of_pos _ n0) (Bx.mk _ _ _)
    · walk_at "s"
      walk_at "ix"
      walk_at "s"
      refine ⟨_, _, _, _, rfl, rfl, hb, rfl, ?_⟩
      walk_at "s"
      walk_at "ix"
      walk_at "s"
      walk_at "ix"
      walk_at "s"
      refine ⟨_, _, _, _, rfl, rfl, upd_same, rfl, ?_⟩
      walk_at "s"
      walk_at "ix"
      walk_at "s"
      exact k _ _ (Int.emod_nonneg _ (by omega)) (Int.emod_lt_of_pos _ n0) ((Bx.mk (x := x) (y := y) (z := z + 1)).trans (Bx.mk _ _ _))
theorem bk_seqT {K : PySem.W.Frag} {b p : Addr} {H H' : Hp} {xs : List V} (s : Bx b H H') (n : p ≠ b) (h : SqT K H p xs) : SqT K H' p xs := by
  rcases h with (h2 | ⟨o', h2⟩) | h2
  · exact .inl (.inl (s.1 _ _ n h2))
  · exact .inl (.inr ⟨o', s.1 _ _ n h2⟩)
  · exact .inr h2
abbrev s_pick : Stmt := top 23
abbrev n_pick : List Str := ["box", "some"]
theorem sc_pick : FnScope n_pick ["box", "some"] (fnScope s_pick) := fnScope_by (by decide +kernel)
def spPick (K : PySem.W.Frag) : Sp := fun vs H Q _ => ∃ (b : Addr) (x : V) (ys : List V), vs = [.ref b, x] ∧ BoxAt b H ∧ x ≠ .ref b ∧ SeqV K H x ys ∧ 0 < ys.length ∧ ys.length < 1000 ∧
  ∀ (v : V) (H' : Hp), v ∈ ys → Bx b H H' → Q v H'
theorem ok_pick (T : BT mg) (c_take : Cal P w K mg base 1 "_law_take" spTake []) {f : Addr} {fd : FuncData} (F : Def K mg "_law_pick" s_pick f fd) (b : Binds K fd ["box", "some"] []) : Cal P w K mg base 2 "_law_pick" (spPick K) [] := by
  refine cal0 F b .nil sc_pick (fun vs H Q E h => ?_) (fun cdv A outer s H vs Q E hr h => ?_)
  · obtain ⟨b, x, xs, rfl, _⟩ := h; rfl
  · obtain ⟨b, x, xs, rfl, hb, hlb, hl, h0, h1, k⟩ := h
    refine ⟨_, (pss_one (ps_ret (pe_ix (ixA K) (pv 1) (pe_c c_take hr (by first | decide | omega) (by rfl) (pa_cons (pv 0) (pa_cons (pe_callB (lenA K) (by rfl) T.m_len PySem.boot_len (pa_cons (pv 1) pa_nil)) pa_nil))) (fun _ _ => rfl)))
      ), ?_⟩
    refine ⟨_, rfl, _, rfl, _, rfl, x, xs, rfl, hl, ?_⟩
    refine ⟨b, (xs.length : Int), rfl, hb, by omega, by omega, fun d H' d0 d1 hB => ?_⟩
    have hd : d.toNat < xs.length := by omega
    have hl' : SeqV K H' x xs := by
      rcases hl with ⟨p, rfl, hp⟩ | h
      · have np : p ≠ b := fun e => hlb (by rw [e])
        exact .inl ⟨p, rfl, hp.imp (bk_seq hB np) (bk_seqT hB np)⟩
      · exact .inr h
    exact ⟨xs, d, xs[d.toNat], rfl, hl', at_of (by omega) (List.getElem?_eq_getElem hd), k _ _ (List.getElem_mem hd) hB⟩
theorem s_ab : (Str.ofString "ab") = S [97, 98] := by decide +kernel
theorem s_a : (Str.ofString "a") = S [97] := by decide +kernel
theorem s_abc : (Str.ofString "abc") = S [97, 98, 99] := by decide +kernel
theorem s_xz : (Str.ofString "xz") = S [120, 122] := by decide +kernel
theorem s_nil : (Str.ofString "") = S [] := by decide +kernel
abbrev s_signs : Stmt := top 25
abbrev n_signs : List Str := ["box"]
theorem sc_signs : FnScope n_signs ["box"] (fnScope s_signs) := fnScope_by (by decide +kernel)
def spSigns : Sp := fun vs H Q _ => ∃ (b : Addr), vs = [.ref b] ∧ BoxAt b H ∧ ∀ (sg : List Nat) (H' : Hp), Menu sg → Bx b H H' → Q (.str (S sg)) H'
theorem ok_signs (T : BT mg) (c_pick : Cal P w K mg base 2 "_law_pick" (spPick K) []) {f : Addr} {fd : FuncData} (F : Def K mg "_law_signs" s_signs f fd) (b : Binds K fd ["box"] []) : Cal P w K mg base 3 "_law_signs" spSigns [] := by
  refine cal0 F b .nil sc_signs (fun vs H Q E h => ?_) (fun cdv A outer s H vs Q E hr h => ?_)
  · obtain ⟨b, rfl, _⟩ := h; rfl
  · obtain ⟨b, rfl, hb, k⟩ := h
    refine ⟨_, (pss_one (ps_ret (pe_c c_pick hr (by first | decide | omega) (by rfl) (pa_cons (pv 0) (pa_cons (pe_lst (pa_cons pe_str (pa_cons pe_str (pa_cons pe_str (pa_cons pe_str (pa_cons pe_str pa_nil)))))) pa_nil))))
      ), ?_⟩
    walk_at "s"
    refine ⟨by decide, fun p hp => ?_⟩
    have hpb := box_ne hb hp
    refine ⟨b, .ref p, _, rfl, ((Bx.put (bk_same (Same.refl H) hb) hb hp)).2, (fun e => hpb (by cases e; rfl)), .inl ⟨p, rfl, .inl (SqL.of upd_same)⟩, by decide, by decide, fun v H' hv hB => ?_⟩
    have hB' : Bx b H H' := (Bx.put (bk_same (Same.refl H) hb) hb hp).trans hB
    have e : v = .str (Str.ofString "ab") ∨ v = .str (Str.ofString "ab") ∨ v = .str (Str.ofString "abc") ∨ v = .str (Str.ofString "a") ∨ v = .str (Str.ofString "xz") := by simpa using hv
    rcases e with rfl | rfl | rfl | rfl | rfl
    · rw [s_ab]; exact k _ _ (by unfold Menu sgs; simp) hB'
    · rw [s_ab]; exact k _ _ (by unfold Menu sgs; simp) hB'
    · rw [s_abc]; exact k _ _ (by unfold Menu sgs; simp) hB'
    · rw [s_a]; exact k _ _ (by unfold Menu sgs; simp) hB'
    · rw [s_xz]; exact k _ _ (by unfold Menu sgs; simp) hB'
theorem menu_cases {sg : List Nat} (h : Menu sg) : sg = [97, 98] ∨ sg = [97, 98, 99] ∨ sg = [97] ∨ sg = [120, 122] := by
  unfold Menu sgs at h; simpa using h
theorem menu_len {sg : List Nat} (h : Menu sg) : 0 < sg.length ∧ sg.length ≤ 3 := by
  rcases menu_cases h with rfl | rfl | rfl | rfl <;> decide
theorem menu_nodup {sg : List Nat} (h : Menu sg) : sg.Nodup := by
  rcases menu_cases h with rfl | rfl | rfl | rfl <;> decide
theorem menu_small {sg : List Nat} (h : Menu sg) : ∀ c ∈ sg, 97 ≤ c ∧ c ≤ 122 := by
  rcases menu_cases h with rfl | rfl | rfl | rfl <;> decide
theorem singles_join : ∀ (ys : List V) (m : Nat) (sg : List Nat), ys.length = m → (∀ (j : Nat) y, ys[j]? = some y → ∃ c ∈ sg, y = .str (S [c])) → ∃ l : List Nat, l.length = m ∧ Ov sg l ∧ ys = (l.map fun c => V.str (S [c]))
  | [], m, sg, e, _ => ⟨[], e, (fun _ h => nomatch h), rfl⟩
  | y :: ys, m, sg, e, h => by
    obtain ⟨l, e1, o1, e2⟩ := singles_join ys (m - 1) sg (by simp at e; omega) fun j z q => h (j + 1) z q
    obtain ⟨c, hc, ec⟩ := h 0 y rfl
    refine ⟨c :: l, by simp at e ⊢; omega, fun d hd => ?_, by rw [ec, e2]; rfl⟩
    rcases List.mem_cons.mp hd with rfl | hd
    · exact hc
    · exact o1 d hd
theorem seq_text {K : PySem.W.Frag} {H : Hp} {sg : List Nat} (h : sg.length ≤ 1000) : SeqV K H (.str (S sg)) (sg.map fun c => V.str (S [c])) := .inr ⟨sg, rfl, sz h (by decide), rfl⟩
abbrev s_row : Stmt := top 26
abbrev n_row : List Str := ["box", "signs", "long", "turn"]
theorem sc_row : FnScope n_row ["box", "signs", "long"] (fnScope s_row) := fnScope_by (by decide +kernel)
def spRow : Sp := fun vs H Q _ => ∃ (b : Addr) (sg : List Nat) (m : Nat), vs = [.ref b, .str (S sg), .int m] ∧ Menu sg ∧ m ≤ 100 ∧ BoxAt b H ∧ ∀ (l : List Nat) (H' : Hp), Ov sg l → l.length ≤ m → Bx b H H' → Q (.str (S l)) H'
theorem ok_row (T : BT mg) (c_take : Cal P w K mg base 1 "_law_take" spTake []) (c_pick : Cal P w K mg base 2 "_law_pick" (spPick K) []) {f : Addr} {fd : FuncData} (F : Def K mg "_law_row" s_row f fd) (b : Binds K fd ["box", "signs", "long"] []) : Cal P w K mg base 3 "_law_row" spRow [] := by
  refine cal0 F b .nil sc_row (fun vs H Q E h => ?_) (fun cdv A outer s H vs Q E hr h => ?_)
  · obtain ⟨b, sg, m, rfl, _⟩ := h; rfl
  · obtain ⟨b, sg, m, rfl, hm, m100, hb, k⟩ := h
    refine ⟨_, (pss_one (ps_ret (pe_join pe_str (pe_lc (own := [("turn", 3)]) rfl sc_row.nd (pi_range1 (by rfl) T.m_range (pa_cons (pe_c c_take hr (by first | decide | omega) (by rfl) (pa_cons (pv 0) (pa_cons (pe_op op_add (pv 2) pe_int) pa_nil))) pa_nil)) (blkOk_by (N := n_row) (sc := fnScope s_row) (by decide +kernel)) (fun _ _ _ _ _ => (pg_name (i := 3) sc_row.nd rfl (.inl rfl))) (fun _ _ _ _ _ => pts_nil) (fun _ _ _ _ _ => (pe_c c_pick hr (by first | decide | omega) (by rfl) (pa_cons (pv 0) (pa_cons (pv 1) pa_nil)))))))
      ), ?_⟩
    refine ⟨⟨_, rfl⟩, ?_⟩
    walk_at "s"
    refine ⟨b, (m : Int) + 1, rfl, hb, by omega, by omega, fun d H1 d0 d1 hB => ?_⟩
    refine ⟨_, rfl, by omega, by omega, fun D hD => ?_⟩
    refine lc_keep (keep_bk hB.2) (walk_range (lo := 0) (n := d.toNat)) hD (by show d.toNat < sizeLine; exact small1000 (by omega)) (fun _ y => ∃ c ∈ sg, y = .str (S [c])) (fun _ _ => trivial) (fun i x H2 H3 R hi r hy hR => ?_) (fun ys H2 hl hg r hDs => ?_)
    · obtain ⟨rfl, rfl⟩ := hy
      refine ⟨rfl, ?_⟩
      refine ⟨_, rfl, _, rfl, b, .str (S sg), _, rfl, r.2, (fun e => nomatch e), seq_text (by have := (menu_len hm).2; omega), by simpa using (menu_len hm).1, by simp; have := (menu_len hm).2; omega, fun v H4 hv hB4 => ?_⟩
      refine hR v H4 hB4 ?_
      obtain ⟨c, hc, rfl⟩ := List.mem_map.mp hv
      exact ⟨c, hc, rfl⟩
    · obtain ⟨l, hl2, ho, rfl⟩ := singles_join ys _ sg hl hg
      have e1 : (l.map fun c => S [c]) = (l.map fun c => [c]).map S := by rw [List.map_map]; rfl
      have e2 : ((l.map fun c => S [c]).map (·.length)).sum ≤ 101 := by
        have : ∀ l : List Nat, ((l.map fun c => S [c]).map (·.length)).sum = l.length := by
          intro l; induction l with
          | nil => rfl
          | cons c l ih => simp only [List.map_cons, List.sum_cons, ih, List.length_cons]; rw [S_len]; simp; omega
        rw [this]; omega
      refine ⟨_, D, (l.map fun c => S [c]), rfl, rfl, .inl (SqL.of (by rw [List.map_map]; exact hDs)), ?_, ?_⟩
      · rw [s_nil, S_len]; simp only [List.length_nil, Nat.mul_zero, Nat.add_zero]; omega
      · show Q (.str (Txt.join (Str.ofString "") (l.map fun c => S [c]))) H2
        rw [s_nil, e1, join_txs, flat_singles]
        exact k l _ ho (by omega) (hB.trans r)
abbrev s_box : Stmt := top 21
abbrev n_box : List Str := ["script", "k", "great", "seed"]
theorem sc_box : FnScope n_box ["script", "k"] (fnScope s_box) := fnScope_by (by decide +kernel)
def spBox (K : PySem.W.Frag) : Sp := fun vs H Q _ => ∃ (a : Addr) (k : Nat) (ns : List Int), vs = [.ref a, .int k] ∧ SqL K H a (ns.map V.int) ∧ ns.length ≤ 63 ∧
  ∀ (p : Addr) (H' : Hp), Same H H' → H p = none → BoxAt p H' → Q (.ref p) H'
theorem int_at {ns : List Int} {i : Nat} (h : i < ns.length) : ∃ z : Int, (ns.map V.int)[i]? = some (.int z) := ⟨ns[i], by rw [List.getElem?_map, List.getElem?_eq_getElem h]; rfl⟩
theorem ok_box (T : BT mg) {f : Addr} {fd : FuncData} (F : Def K mg "_law_box" s_box f fd) (b : Binds K fd ["script", "k"] []) : Cal P w K mg base 1 "_law_box" (spBox K) [] := by
  refine cal0 F b .nil sc_box (fun vs H Q E h => ?_) (fun cdv A outer s H vs Q E hr h => ?_)
  · obtain ⟨a, k, ns, rfl, _⟩ := h; rfl
  · obtain ⟨a, k, ns, rfl, ha, hl, kk⟩ := h
    refine ⟨_, (pss_cons (ps_set (i := 2) sc_box.nd rfl (.inl rfl) (pe_op op_add (pe_op op_mul pe_int (pv 1)) pe_int))
      (C8.pss_cut (ps_if (pt_cmpR op_lt (pv 1) (pe_callB (lenK K) (by rfl) T.m_len PySem.boot_len (pa_cons (pv 0) pa_nil)) (nomark _)) 
        (pss_one (ps_set (i := 2) sc_box.nd rfl (.inl rfl) (pe_callB call_abs (by rfl) T.m_abs PyProof.Rows.boot_abs (pa_cons (pe_callTy call_int1 (by rfl) T.m_int PyProof.Rows.boot_int (pa_cons (pe_ix (ixl K) (pv 0) (pv 1) (fun _ _ => rfl)) pa_nil)) pa_nil)))
        )
        (pss_one (ps_if (pt_cmpR op_gt (pe_callB (lenK K) (by rfl) T.m_len PySem.boot_len (pa_cons (pv 0) pa_nil)) pe_int (nomark _)) 
          (pss_one (ps_set (i := 2) sc_box.nd rfl (.inl rfl) (pe_op op_add (pv 2) (pe_op op_mul (pe_op op_mod (pe_callTy call_int1 (by rfl) T.m_int PyProof.Rows.boot_int (pa_cons (pe_ix (ixl K) (pv 0) (pe_op op_mod (pe_callTy call_int1 (by rfl) T.m_int PyProof.Rows.boot_int (pa_cons (pv 1) pa_nil)) (pe_callB (lenK K) (by rfl) T.m_len PySem.boot_len (pa_cons (pv 0) pa_nil))) (fun _ _ => rfl)) pa_nil)) pe_int) pe_int)))
          )
         pss_nil)
        ))
      (pss_cons (ps_set (i := 3) sc_box.nd rfl (.inl rfl) (pe_op op_add (pe_op op_mod (pe_callTy call_int1 (by rfl) T.m_int PyProof.Rows.boot_int (pa_cons (pe_op op_add (pe_op op_add (pe_op op_mul (pe_op op_mod (pe_callTy call_int1 (by rfl) T.m_int PyProof.Rows.boot_int (pa_cons (pv 2) pa_nil)) pe_int) pe_int) (pe_op op_mul pe_int (pv 1))) pe_int) pa_nil)) pe_int) pe_int))
      (pss_one (ps_ret (pe_lst (pa_cons (pe_ix (ixl K) (pe_lst (pa_cons pe_int (pa_cons (pv 2) pa_nil))) (pe_callTy call_int1 (by rfl) T.m_int PyProof.Rows.boot_int (pa_cons (pe_cmpR op_ge (pv 2) (pe_op op_pow pe_int pe_int) (nomark _)) pa_nil)) (fun _ _ => rfl)) (pa_cons (pv 3) (pa_cons pe_int pa_nil)))))
      )))), ?_⟩
    walk_at "s"
    refine ⟨fun σ H' => H' = H ∧ ∃ c : Int, σ = [some (.ref a), some (.int k), some (.int c), none], ?_, ?_⟩
    · walk_at "s"
      refine ⟨_, _, rfl, .inl ha, ?_⟩
      walk_at "s"
      refine ite2 (fun hk => ?_) (fun hk => ?_)
      · rw [List.length_map, decide_eq_true_eq] at hk
        obtain ⟨z, hz⟩ := int_at (ns := ns) (i := k) (by omega)
        walk_at "s"
        refine ⟨_, _, _, .int z, rfl, rfl, ha, at_of rfl hz, ?_⟩
        walk_at "s"
        exact ⟨rfl, _, rfl⟩
      · walk_at "s"
        refine ⟨_, _, rfl, .inl ha, ?_⟩
        walk_at "s"
        refine ite2 (fun h0 => ?_) (fun h0 => ?_)
        · rw [List.length_map, decide_eq_true_eq] at h0
          have hn : 0 < (ns.length : Int) := by omega
          walk_at "s"
          refine ⟨_, _, rfl, .inl ha, ?_⟩
          refine ⟨_, _, rfl, rfl, by rw [List.length_map]; exact hn, ?_⟩
          have hm0 := Int.emod_nonneg (k : Int) (show ((ns.map V.int).length : Int) ≠ 0 by rw [List.length_map]; omega)
          have hm1 := Int.emod_lt_of_pos (k : Int) (show (0 : Int) < ((ns.map V.int).length : Int) by rw [List.length_map]; omega)
          obtain ⟨z, hz⟩ := int_at (ns := ns) (i := ((k : Int) % ((ns.map V.int).length : Int)).toNat) (by rw [List.length_map] at hm1 ⊢; omega)
          refine ⟨_, _, _, .int z, rfl, rfl, ha, at_of (by omega) hz, ?_⟩
          walk_at "s"
          exact ⟨rfl, _, rfl⟩
        · exact ⟨rfl, _, rfl⟩
    · rintro σ H' ⟨rfl, c, rfl⟩
      walk_at "s"
      refine ⟨by show 2 ≤ sizeLine; decide, fun p hp => ?_⟩
      have npk := hp
      walk_at "s"
      refine .inr ⟨_, rfl, ?_⟩
      have fin : ∀ x : Int, (3 ≤ sizeLine ∧ ∀ (q : Addr), (upd H' p (.lst [.int 0, .int c])) q = none → Q (.ref q) (upd (upd H' p (.lst [.int 0, .int c])) q (.lst [.int x, .int ((c % 2147483629 * 46589 + 38767 * (k : Int) + 23) % 2147483629 + 1), .int 0]))) := fun x => ⟨by decide, fun q hq => kk q _ (sm_put (sm_new hp) (sm_new hp |>.free hq)) (sm_new hp |>.free hq) (BoxAt.of upd_same)⟩
      cases decide ((10 : Int) ^ (18 : Int).toNat ≤ c) with
      | true =>
        refine ⟨p, _, 1, .int c, rfl, rfl, SqL.of upd_same, rfl, ?_⟩
        walk_at "s"
        exact fin c
      | false =>
        refine ⟨p, _, 0, .int 0, rfl, rfl, SqL.of upd_same, rfl, ?_⟩
        walk_at "s"
        exact fin 0
end
end Toy
set_option maxHeartbeats 2000000
namespace Toy
open PySem L2 C8 SX LX
local macro_rules | `(tactic| walk_at "c") => `(tactic| refine And.intro (by first | (show (0 : Int) < _; omega) | exact Or.inr ⟨by decide, by decide⟩ | exact Or.inl ⟨by decide, by decide⟩ | (exact ⟨by omega, by omega⟩)) ?_)
local macro_rules | `(tactic| walk_at "s1") => `(tactic| first | refine ⟨_, rfl, ?_⟩ | refine ⟨_, _, rfl, rfl, ?_⟩ | refine .inl ⟨_, rfl, ?_⟩ | walk_at "c")
local macro_rules | `(tactic| walk_at "ix") => `(tactic| refine ⟨_, _, _, _, rfl, rfl, SqL.of (by first | assumption | exact upd_same), rfl, ?_⟩)
local macro_rules | `(tactic| walk_at "s") => `(tactic| repeat (walk_at "s1"))
def Sg (sg : List Nat) : Prop := sg.Pairwise (· < ·) ∧ 1 ≤ sg.length ∧ sg.length ≤ 3 ∧ ∀ c ∈ sg, 97 ≤ c ∧ c ≤ 122
theorem ov_az {l : List Nat} : Ov az l ↔ ∀ c ∈ l, 97 ≤ c ∧ c ≤ 122 := ⟨fun h c hc => az_mem.mp (h c hc), fun h c hc => az_mem.mpr (h c hc)⟩
abbrev s_isseq : Stmt := top 6
abbrev n_isseq : List Str := ["value"]
theorem sc_isseq : FnScope n_isseq ["value"] (fnScope s_isseq) := fnScope_by (by decide +kernel)
abbrev s_isrow : Stmt := top 10
abbrev n_isrow : List Str := ["value", "signs"]
theorem sc_isrow : FnScope n_isrow ["value", "signs"] (fnScope s_isrow) := fnScope_by (by decide +kernel)
abbrev s_isletters : Stmt := top 8
abbrev n_isletters : List Str := ["value"]
theorem sc_isletters : FnScope n_isletters ["value"] (fnScope s_isletters) := fnScope_by (by decide +kernel)
abbrev s_issigns : Stmt := top 9
abbrev n_issigns : List Str := ["value", "one", "other"]
theorem sc_issigns : FnScope n_issigns ["value"] (fnScope s_issigns) := fnScope_by (by decide +kernel)
theorem sg_asc {sg : List Nat} (h : Sg sg) (i c d : Nat) (e1 : sg[i]? = some c) (e2 : sg[i + 1]? = some d) : c < d := by
  obtain ⟨a1, a2⟩ := List.getElem?_eq_some_iff.mp e1
  obtain ⟨b1, b2⟩ := List.getElem?_eq_some_iff.mp e2
  have := List.pairwise_iff_getElem.mp h.1 i (i + 1) a1 b1 (Nat.lt_succ_self i)
  rw [a2, b2] at this; exact this
instance (sg l : List Nat) : Decidable (Ov sg l) := by unfold Ov; infer_instance
inductive Kv (K : PySem.W.Frag) (H : Hp) : V → Option (List Nat) → Prop
  | txt (l : List Nat) : Kv K H (.str (S l)) (some l)
  | no {v : V} {t : Value} (ty : TyX K H v t) (h : PySem.W.kitOne K t (.type "str") = some false) : Kv K H v none
def tyN : PyData → String
  | .none => "NoneType"
  | .bool _ => "bool"
  | .int _ => "int"
  | .str _ => "str"
  | .list _ => "list"
  | .tuple _ => "tuple"
  | .dict _ => "dict"
def txtO : PyData → Option (List Nat)
  | .str s => some s.cps.toList
  | _ => none
def isSeqD : PyData → Bool
  | .list _ => true
  | .tuple _ => true
  | _ => false
theorem S_self (s : Str) : S s.cps.toList = s := by
  obtain ⟨c⟩ := s
  simp [S]
theorem ty_seqL {K : PySem.W.Frag} {H : Hp} {a : Addr} {xs : List V} (h : SqL K H a xs) : TyX K H (.ref a) (.type "list") := by
  rcases h with (h | ⟨o, h⟩) | ⟨o, its, n, h1, h2, _⟩
  · exact .base (.lst h)
  · exact .base (.frz h)
  · exact .kList h1 h2
theorem ty_seqT {K : PySem.W.Frag} {H : Hp} {a : Addr} {xs : List V} (h : SqT K H a xs) : TyX K H (.ref a) (.type "tuple") := by
  rcases h with (h | ⟨o, h⟩) | ⟨o, its, n, h1, h2, _⟩
  · exact .base (.tup h)
  · exact .fTuple h
  · exact .kTuple h1 h2
theorem dp_ty {K : PySem.W.Frag} {H : Hp} {v : V} {d : PyData} (h : Dp K H v d) : TyX K H v (.type (tyN d)) := by
  cases h with
  | non => exact .base .non
  | bl b => exact .base (.bl b)
  | int i => exact .base (.int i)
  | str x => exact .base (.str x)
  | lst h _ => exact ty_seqL h
  | tup h _ => exact ty_seqT h
theorem dp_kv {K : PySem.W.Frag} {H : Hp} {v : V} {d : PyData} (h : Dp K H v d) : Kv K H v (txtO d) := by
  have ty := dp_ty h
  cases h with
  | non => exact .no ty (kit_ty (a := "NoneType") (by decide +kernel))
  | bl b => exact .no ty (kit_ty (a := "bool") (by decide +kernel))
  | int i => exact .no ty (kit_ty (a := "int") (by decide +kernel))
  | str x =>
    have e : V.str x = V.str (S x.cps.toList) := by rw [S_self]
    rw [e]
    exact .txt _
  | lst h _ => exact .no ty (kit_ty (a := "list") (by decide +kernel))
  | tup h _ => exact .no ty (kit_ty (a := "tuple") (by decide +kernel))
theorem kv_ins {K : PySem.W.Frag} {H : Hp} {a C dx : Addr} {fs : List (Str × V)} (I : InsC K C) (hk : PySem.W.kitOne K (.ref C) (.type "str") = some false) (h : H a = some (.ins C dx fs)) : Kv K H (.ref a) none :=
  .no (.base (.ins h I.cl I.ha I.hn I.htk I.hm)) hk
mutual
theorem dp_same {K : PySem.W.Frag} {H H' : Hp} (s : Same H H') : ∀ (d : PyData) (v : V), Dp K H v d → Dp K H' v d
  | .none, _, h => by cases h; exact .non
  | .bool b, _, h => by cases h; exact .bl b
  | .int i, _, h => by cases h; exact .int i
  | .str x, _, h => by cases h; exact .str x
  | .list ds, _, h => by
    cases h with
    | lst hs ha => exact .lst (s.seq hs) (dpa_same s ds _ ha)
  | .tuple ds, _, h => by
    cases h with
    | tup hs ha => exact .tup (sm_seqT s hs) (dpa_same s ds _ ha)
  | .dict _, _, h => by cases h
theorem dpa_same {K : PySem.W.Frag} {H H' : Hp} (s : Same H H') : ∀ (ds : List PyData) (vs : List V), DpAll K H vs ds → DpAll K H' vs ds
  | [], _, h => by cases h; exact .nil
  | d :: ds, _, h => by
    cases h with
    | cons h1 h2 => exact .cons (dp_same s d _ h1) (dpa_same s ds _ h2)
end
theorem dpa_len {K : PySem.W.Frag} {H : Hp} : ∀ {vs : List V} {ds : List PyData}, DpAll K H vs ds → vs.length = ds.length
  | _, _, .nil => rfl
  | _, _, .cons _ h => by rw [List.length_cons, List.length_cons, dpa_len h]
theorem dpa_at {K : PySem.W.Frag} {H : Hp} : ∀ {vs : List V} {ds : List PyData}, DpAll K H vs ds → ∀ (i : Nat) (v : V), vs[i]? = some v → ∃ d, ds[i]? = some d ∧ Dp K H v d
  | _, _, .nil, i, v, h => by simp at h
  | _, _, .cons h _, 0, v, e => by cases e; exact ⟨_, rfl, h⟩
  | _, _, .cons _ h, i + 1, v, e => dpa_at h i v e
def seqD (b : Bool) (ds : List PyData) : PyData := if b = true then .list ds else .tuple ds
theorem dp_seq {K : PySem.W.Frag} {H : Hp} {v : V} {b : Bool} {ds : List PyData} (h : Dp K H v (seqD b ds)) : ∃ a xs, v = .ref a ∧ SqB K b H a xs ∧ DpAll K H xs ds := by
  cases b with
  | true =>
    have h : Dp K H v (.list ds) := h
    cases h with
    | lst hs ha => exact ⟨_, _, rfl, hs, ha⟩
  | false =>
    have h : Dp K H v (.tuple ds) := h
    cases h with
    | tup hs ha => exact ⟨_, _, rfl, hs, ha⟩
theorem isSeq_of {d : PyData} (h : isSeqD d = true) : ∃ b ds, d = seqD b ds := by
  cases d with
  | list ds => exact ⟨true, ds, rfl⟩
  | tuple ds => exact ⟨false, ds, rfl⟩
  | _ => cases h
theorem bools_of {ys : List V} {n : Nat} {f : Nat → Bool} (hl : ys.length = n) (h : ∀ (j : Nat) y, ys[j]? = some y → y = .bl (f j)) : ys = ((List.range n).map f).map V.bl := by
  rw [List.map_map]
  exact list_of hl h
theorem all_range {n : Nat} {f : Nat → Bool} : ((List.range n).map f).all id = decide (∀ i, i < n → f i = true) := by
  rw [Bool.eq_iff_iff, List.all_eq_true, decide_eq_true_eq]
  constructor
  · intro h i hi
    exact h _ (List.mem_map.mpr ⟨i, List.mem_range.mpr hi, rfl⟩)
  · intro h b hb
    obtain ⟨i, hi, rfl⟩ := List.mem_map.mp hb
    exact h i (List.mem_range.mp hi)
section
variable {P : Program} {w : World} {K : PySem.W.Frag} {mg : Str → Option Value} {base : Heap}
def spIsSeqD (K : PySem.W.Frag) : Sp := fun vs H Q _ => ∃ (v : V) (d : PyData), vs = [v] ∧ Dp K H v d ∧ ∀ H', Same H H' → Q (.bl (isSeqD d)) H'
theorem ok_isseqD (T : BT mg) {f : Addr} {fd : FuncData} (F : Def K mg "is_sequence" s_isseq f fd) (b : Binds K fd ["value"] []) : Cal P w K mg base 1 "is_sequence" (spIsSeqD K) [] := by
  refine cal0 F b .nil sc_isseq (fun vs H Q E h => ?_) (fun cdv A outer s H vs Q E hr h => ?_)
  · obtain ⟨v, d, rfl, _⟩ := h; rfl
  · obtain ⟨v, d, rfl, hd, k⟩ := h
    refine ⟨_, (pss_one (ps_ret (pe_callB (isiTK K) (by rfl) T.m_isinstance PyProof.Rows.boot_isinstance (pa_cons (pv 0) (pa_cons (pe_tup (pa_cons (pe_bltn (v := .ty "list") (by rfl) T.m_list PyProof.Rows.boot_list rfl) (pa_cons (pe_bltn (v := .ty "tuple") (by rfl) T.m_tuple PyProof.Rows.boot_tuple rfl) pa_nil))) pa_nil))))
      ), ?_⟩
    walk_at "s"
    refine ⟨by decide, fun t ht => ?_⟩
    have ty := dp_ty (dp_same (sm_new (o := .tup [.ty "list", .ty "tuple"]) ht) d v hd)
    refine ⟨_, t, _, _, _, isSeqD d, rfl, upd_same, .cons (.ty _) (.cons (.ty _) .nil), ty, ?_, k _ (sm_new ht)⟩
    cases d with
    | list ds => exact kitAny_cons (b := true) (kit_ty (a := "list") (by decide +kernel)) (fun h => nomatch h) (fun _ => rfl)
    | tuple ds => exact kitAny_cons (b := false) (kit_ty (a := "tuple") (by decide +kernel)) (fun _ => kitAny_cons (b := true) (kit_ty (a := "tuple") (by decide +kernel)) (fun h => nomatch h) (fun _ => rfl)) (fun h => nomatch h)
    | dict ds => cases hd
    | none => exact kitAny_cons (b := false) (kit_ty (a := "NoneType") (by decide +kernel)) (fun _ => kitAny_cons (b := false) (kit_ty (a := "NoneType") (by decide +kernel)) (fun _ => rfl) (fun h => nomatch h)) (fun h => nomatch h)
    | bool _ => exact kitAny_cons (b := false) (kit_ty (a := "bool") (by decide +kernel)) (fun _ => kitAny_cons (b := false) (kit_ty (a := "bool") (by decide +kernel)) (fun _ => rfl) (fun h => nomatch h)) (fun h => nomatch h)
    | int _ => exact kitAny_cons (b := false) (kit_ty (a := "int") (by decide +kernel)) (fun _ => kitAny_cons (b := false) (kit_ty (a := "int") (by decide +kernel)) (fun _ => rfl) (fun h => nomatch h)) (fun h => nomatch h)
    | str _ => exact kitAny_cons (b := false) (kit_ty (a := "str") (by decide +kernel)) (fun _ => kitAny_cons (b := false) (kit_ty (a := "str") (by decide +kernel)) (fun _ => rfl) (fun h => nomatch h)) (fun h => nomatch h)
def rowO (sg : List Nat) : Option (List Nat) → Bool
  | some l => decide (Ov sg l)
  | none => false
def Sm (o : Option (List Nat)) : Prop := ∀ l, o = some l → l.length ≤ 1000
def spIsRowD (K : PySem.W.Frag) : Sp := fun vs H Q _ => ∃ (v : V) (o : Option (List Nat)) (sg : List Nat), vs = [v, .str (S sg)] ∧ Kv K H v o ∧ Sm o ∧ Q (.bl (rowO sg o)) H
theorem ok_isrowD (T : BT mg) {f : Addr} {fd : FuncData} (F : Def K mg "is_row" s_isrow f fd) (b : Binds K fd ["value", "signs"] []) : Cal P w K mg base 1 "is_row" (spIsRowD K) [] := by
  refine cal0 F b .nil sc_isrow (fun vs H Q E h => ?_) (fun cdv A outer s H vs Q E hr h => ?_)
  · obtain ⟨v, o, sg, rfl, _⟩ := h; rfl
  · obtain ⟨v, o, sg, rfl, hv, hl, k⟩ := h
    refine ⟨_, (pss_one (ps_ret (pe_and (pe_callB (isiK K) (by rfl) T.m_isinstance PyProof.Rows.boot_isinstance (pa_cons (pv 0) (pa_cons (pe_bltn (v := .ty "str") (by rfl) T.m_str PyProof.Rows.boot_str rfl) pa_nil))) (pe_one (pe_cmpR op_eq (pe_bm PySem.F.plainAttrs_str PySem.F.slot_str_strip PySem.F.type_str_strip mt_stripChars (pv 0) (pa_cons (pv 1) pa_nil)) pe_str (nomark _)))))
      ), ?_⟩
    walk_at "s"
    cases hv with
    | no ty hk =>
      exact ⟨_, _, _, _, false, rfl, .ty _, ty, hk, false, rfl, iteN rfl k⟩
    | txt l =>
      have hl := hl l rfl
      refine ⟨_, _, _, _, true, rfl, .ty _, .base (.str _), kit_ty (by decide +kernel), true, rfl, ?_⟩
      refine iteT ?_
      refine ⟨_, rfl, rfl, _, rfl, S l, S sg, rfl, rfl, by rw [S_len]; exact sz hl (by decide), rfl, ?_⟩
      have e : V.bl (decide (V.str (Txt.stripChars (S l) (S sg)) = V.str (Str.ofString ""))) = V.bl (decide (Ov sg l)) := by
        rw [s_nil]
        refine congrArg V.bl (decide_eq_decide.mpr ?_)
        rw [V.str.injEq]
        exact strip_nil
      show Q (V.bl (decide (V.str (Txt.stripChars (S l) (S sg)) = V.str (Str.ofString "")))) H
      rw [e]
      exact k
def spIsLettersD (K : PySem.W.Frag) : Sp := fun vs H Q _ => ∃ (v : V) (o : Option (List Nat)), vs = [v] ∧ Kv K H v o ∧ Sm o ∧ Q (.bl (rowO az o)) H
theorem ok_islettersD (T : BT mg) {tz : Tok} (mgZ : mg "_LETTERS" = some (.str (S az) tz)) (c_isrow : Cal P w K mg base 1 "is_row" (spIsRowD K) []) {f : Addr} {fd : FuncData} (F : Def K mg "is_letters" s_isletters f fd) (b : Binds K fd ["value"] []) : Cal P w K mg base 2 "is_letters" (spIsLettersD K) [] := by
  refine cal0 F b .nil sc_isletters (fun vs H Q E h => ?_) (fun cdv A outer s H vs Q E hr h => ?_)
  · obtain ⟨v, o, rfl, _⟩ := h; rfl
  · obtain ⟨v, o, rfl, hv, hl, k⟩ := h
    refine ⟨_, (pss_one (ps_ret (pe_c c_isrow hr (by first | decide | omega) (by rfl) (pa_cons (pv 0) (pa_cons (pe_glob (v := .str (S az)) (by rfl) mgZ ⟨_, rfl⟩) pa_nil))))
      ), ?_⟩
    exact ⟨_, rfl, v, o, az, rfl, hv, hl, k⟩
instance (l : List Nat) : Decidable (Sg l) := by unfold Sg; infer_instance
def sgO : Option (List Nat) → Bool
  | some l => decide (Sg l)
  | none => false
def spIsSignsD (K : PySem.W.Frag) : Sp := fun vs H Q _ => ∃ (v : V) (o : Option (List Nat)), vs = [v] ∧ Kv K H v o ∧ Sm o ∧ ∀ H', Same H H' → Q (.bl (sgO o)) H'
theorem ok_issignsD (T : BT mg) (c_isletters : Cal P w K mg base 2 "is_letters" (spIsLettersD K) []) {f : Addr} {fd : FuncData} (F : Def K mg "is_signs" s_issigns f fd) (b : Binds K fd ["value"] []) : Cal P w K mg base 3 "is_signs" (spIsSignsD K) [] := by
  refine cal0 F b .nil sc_issigns (fun vs H Q E h => ?_) (fun cdv A outer s H vs Q E hr h => ?_)
  · obtain ⟨v, o, rfl, _⟩ := h; rfl
  · obtain ⟨v, o, rfl, hv, hl, k⟩ := h
    refine ⟨_, (pss_cons (ps_if (PW.pt (pw_or (pt_not (pt_val (pe_c c_isletters hr (by first | decide | omega) (by rfl) (pa_cons (pv 0) pa_nil)))) (pw_or (pt_cmpR op_lt (pe_callB call_len_str (by rfl) T.m_len PySem.boot_len (pa_cons (pv 0) pa_nil)) pe_int (nomark _)) (pw_or1 (pt_cmpR op_gt (pe_callB call_len_str (by rfl) T.m_len PySem.boot_len (pa_cons (pv 0) pa_nil)) pe_int (nomark _)))))) 
        (pss_one (ps_ret pe_bl)
        )
       pss_nil)
      (pss_one (ps_ret (pe_callB (cr_all rfl) (by rfl) T.m_all PyProof.Rows.boot_all (pa_cons (pe_lc (own := [("one", 1), ("other", 2)]) rfl sc_issigns.nd (pi_zipX (by rfl) T.m_zip (pa_cons (pv 0) (pa_cons (pe_slice sl_txt (pv 0) (po_some pe_int) po_none) pa_nil))) (blkOk_by (N := n_issigns) (sc := fnScope s_issigns) (by decide +kernel)) (fun _ _ _ _ _ => (tupK K 2 (pgs_cons (pg_name (i := 1) sc_issigns.nd rfl (.inl rfl)) (pgs_cons (pg_name (i := 2) sc_issigns.nd rfl (.inl rfl)) pgs_nil)))) (fun _ _ _ _ _ => pts_nil) (fun _ _ _ _ _ => (pe_cmpR op_lt_str (pv 1) (pv 2) (nomark _)))) pa_nil)))
      )), ?_⟩
    refine ⟨_, rfl, v, o, rfl, hv, hl, ?_⟩
    cases hv with
    | no ty hk => exact ⟨_, rfl, iteB rfl (k H (Same.refl H))⟩
    | txt l =>
      have hl := hl l rfl
      by_cases ha : Ov az l
      · rw [show rowO az (some l) = true from decide_eq_true ha]
        have hsl : (S l).length ≤ sizeLine := by rw [S_len]; exact Nat.le_trans hl (by decide)
        refine ⟨_, rfl, iteN rfl ?_⟩
        walk_at "s"
        refine ⟨hsl, ?_⟩
        walk_at "s"
        by_cases h1 : l.length < 1
        · refine iteB (by rw [S_len]; exact decide_eq_true (by omega)) ?_
          have e : sgO (some l) = false := decide_eq_false fun h => by have := h.2.1; omega
          rw [e] at k
          exact k H (Same.refl H)
        refine iteN (by rw [S_len]; exact decide_eq_false (by omega)) ?_
        walk_at "s"
        refine ⟨hsl, ?_⟩
        walk_at "s"
        by_cases h3 : 3 < l.length
        · refine iteB (by rw [S_len]; exact decide_eq_true (by omega)) ?_
          have e : sgO (some l) = false := decide_eq_false fun h => by have := h.2.2.1; omega
          rw [e] at k
          exact k H (Same.refl H)
        refine iteN (by rw [S_len]; exact decide_eq_false (by omega)) ?_
        walk_at "s"
        refine ⟨hsl, _, _, .txt (S l), .txt (S (l.drop 1)), rfl, rfl, slice_from (by decide), trivial, trivial, fun D hD => ?_⟩
        have hn : min (l.map fun c => V.str (S [c])).length ((l.drop 1).map fun c => V.str (S [c])).length = l.length - 1 := by
          rw [List.length_map, List.length_map, List.length_drop]; omega
        refine lc_keep (n := min (l.map fun c => V.str (S [c])).length ((l.drop 1).map fun c => V.str (S [c])).length) keep_same walk_zipX hD (by rw [hn]; exact small1000 (by omega)) (fun j y => y = .bl (decide (l.getD j 0 < l.getD (1 + j) 0))) (fun _ _ => ⟨rfl, rfl⟩) (fun i x H2 H3 R hii r1 hy hR => ?_) (fun ys H2 hly hg r1 hDs => ?_)
        · obtain ⟨t, x1, x2, rfl, ht, rfl, e1, e2⟩ := hy
          have e1 : (l.map fun c => V.str (S [c]))[i]? = some x1 := e1
          have e2 : ((l.drop 1).map fun c => V.str (S [c]))[i]? = some x2 := e2
          rw [List.getElem?_map] at e1 e2
          rw [List.getElem?_drop] at e2
          cases q1 : l[i]? with
          | none => rw [q1] at e1; cases e1
          | some c =>
            cases q2 : l[1 + i]? with
            | none => rw [q2] at e2; cases e2
            | some d =>
              rw [q1] at e1; rw [q2] at e2
              cases e1; cases e2
              refine ⟨t, _, rfl, .inl (.inl upd_same), rfl, _, _, rfl, _, _, rfl, rfl, rfl, ?_⟩
              walk_at "s"
              refine hR _ _ (sm_new ht) (congrArg V.bl ?_)
              rw [List.getD_eq_getElem?_getD, List.getD_eq_getElem?_getD, q1, q2]
              show decide (([c] : List Nat) < [d]) = decide (c < d)
              refine decide_eq_decide.mpr ?_
              rw [List.cons_lt_cons_iff]
              exact ⟨fun h => h.elim id fun h => absurd h.2 (by simp), .inl⟩
        · refine ⟨D, (List.range (l.length - 1)).map fun j => decide (l.getD j 0 < l.getD (1 + j) 0), rfl, SqL.of (by rw [← bools_of (hly.trans hn) hg]; exact hDs), ?_⟩
          rw [all_range]
          have e : sgO (some l) = decide (∀ i, i < l.length - 1 → decide (l.getD i 0 < l.getD (1 + i) 0) = true) := by
            refine decide_eq_decide.mpr ⟨fun h i hi => decide_eq_true ?_, fun h => ⟨?_, by omega, by omega, ov_az.mp ha⟩⟩
            · have i1 : i < l.length := by omega
              have i2 : i + 1 < l.length := by omega
              rw [List.getD_eq_getElem?_getD, List.getD_eq_getElem?_getD, Nat.add_comm 1 i, List.getElem?_eq_getElem i1, List.getElem?_eq_getElem i2]
              exact sg_asc h i _ _ (List.getElem?_eq_getElem i1) (List.getElem?_eq_getElem i2)
            · have key : ∀ i, i + 1 < l.length → l.getD i 0 < l.getD (i + 1) 0 := fun i hi => by
                have := of_decide_eq_true (h i (by omega))
                rw [Nat.add_comm 1 i] at this
                exact this
              match l, key with
              | [], _ => exact .nil
              | [a], _ => exact List.pairwise_singleton _ _
              | [a, b], key =>
                have := key 0 (by simp)
                simp at this
                exact .cons (fun x hx => by rw [List.mem_singleton.mp hx]; exact this) (List.pairwise_singleton _ _)
              | [a, b, c], key =>
                have k1 := key 0 (by simp)
                have k2 := key 1 (by simp)
                simp at k1 k2
                exact .cons (fun x hx => by rcases List.mem_cons.mp hx with rfl | hx; exact k1; rw [List.mem_singleton.mp hx]; omega) (.cons (fun x hx => by rw [List.mem_singleton.mp hx]; exact k2) (List.pairwise_singleton _ _))
              | _ :: _ :: _ :: _ :: _, _ => simp at h3
          rw [← e]
          exact k H2 r1
      · rw [show rowO az (some l) = false from decide_eq_false ha]
        refine ⟨_, rfl, iteB rfl ?_⟩
        have e : sgO (some l) = false := decide_eq_false fun h => ha (ov_az.mpr h.2.2.2)
        rw [e] at k
        exact k H (Same.refl H)
end
end Toy
set_option maxHeartbeats 2000000
namespace Toy
open PySem L2 C8 SX LX
local macro_rules | `(tactic| walk_at "c") => `(tactic| refine And.intro (by first | (show (0 : Int) < _; omega) | exact Or.inr ⟨by decide, by decide⟩ | exact Or.inl ⟨by decide, by decide⟩ | (exact ⟨by omega, by omega⟩)) ?_)
local macro_rules | `(tactic| walk_at "s1") => `(tactic| first | refine ⟨_, rfl, ?_⟩ | refine ⟨_, _, rfl, rfl, ?_⟩ | refine .inl ⟨_, rfl, ?_⟩ | walk_at "c")
local macro_rules | `(tactic| walk_at "ix") => `(tactic| refine ⟨_, _, _, _, rfl, rfl, SqL.of (by first | assumption | exact upd_same), rfl, ?_⟩)
local macro_rules | `(tactic| walk_at "s") => `(tactic| repeat (walk_at "s1"))
mutual
def okD : PyData → Bool
  | .str s => decide (s.length ≤ 40) && s.cps.toList.all fun c => decide (c < 1114112)
  | .list ds => decide (ds.length ≤ 20) && okAll ds
  | .tuple ds => decide (ds.length ≤ 20) && okAll ds
  | _ => true
def okAll : List PyData → Bool
  | [] => true
  | d :: ds => okD d && okAll ds
end
theorem okAll_iff : ∀ {ds : List PyData}, okAll ds = true ↔ ∀ d ∈ ds, okD d = true
  | [] => by simp [okAll]
  | d :: ds => by
    have ih := okAll_iff (ds := ds)
    simp only [okAll, Bool.and_eq_true, List.forall_mem_cons, ih]
theorem okD_lst {ds : List PyData} (hl : ds.length ≤ 20) (h : ∀ d ∈ ds, okD d = true) : okD (.list ds) = true := by
  unfold okD; rw [decide_eq_true hl, okAll_iff.mpr h]; rfl
theorem okD_tup {ds : List PyData} (hl : ds.length ≤ 20) (h : ∀ d ∈ ds, okD d = true) : okD (.tuple ds) = true := by
  unfold okD; rw [decide_eq_true hl, okAll_iff.mpr h]; rfl
def itemsD : PyData → Option (List PyData)
  | .list ds => some ds
  | .tuple ds => some ds
  | _ => none
theorem okD_items {d : PyData} {ds : List PyData} (h : okD d = true) (e : itemsD d = some ds) : ds.length ≤ 20 ∧ ∀ x ∈ ds, okD x = true := by
  cases d with
  | list xs => cases e; unfold okD at h; rw [Bool.and_eq_true, decide_eq_true_eq] at h; exact ⟨h.1, okAll_iff.mp h.2⟩
  | tuple xs => cases e; unfold okD at h; rw [Bool.and_eq_true, decide_eq_true_eq] at h; exact ⟨h.1, okAll_iff.mp h.2⟩
  | _ => cases e
theorem okD_sm {d : PyData} (h : okD d = true) : Sm (txtO d) := fun l e => by
  cases d with
  | str s =>
    cases e
    unfold okD at h
    rw [Bool.and_eq_true, decide_eq_true_eq] at h
    have : s.cps.toList.length = s.length := Array.length_toList
    omega
  | _ => cases e
theorem okD_text {l : List Nat} (h : okD (.str (S l)) = true) : l.length ≤ 40 ∧ ∀ c ∈ l, c < 1114112 := by
  unfold okD at h
  rw [Bool.and_eq_true, decide_eq_true_eq, S_len] at h
  refine ⟨h.1, fun c hc => ?_⟩
  have := List.all_eq_true.mp h.2 c (by simpa [S] using hc)
  exact of_decide_eq_true this
theorem bx_wo {b : Addr} {B : List Addr} {H H' : Hp} (s : Bx b H H') (h : b ∈ B) : Same (wo B H) (wo B H') := fun a o e => let ⟨e, n⟩ := of_wo e; wo_get (s.1 _ _ (fun z => n (by rw [z]; exact h)) e) n
theorem live_bx {b : Addr} {B : List Addr} {H H' : Hp} (l : Liv B H) (s : Bx b H H') : Liv B H' := fun c hc e => by
  by_cases n : c = b
  · subst n; obtain ⟨o, h, _⟩ := s.2; rw [h] at e; cases e
  · cases q : H c with
    | none => exact l c hc q
    | some o => rw [s.1 _ _ n q] at e; cases e
theorem dpa_ex {K : PySem.W.Frag} {H : Hp} {P : PyData → Prop} : ∀ {ys : List V}, (∀ (j : Nat) y, ys[j]? = some y → ∃ d, Dp K H y d ∧ P d) → ∃ ds, DpAll K H ys ds ∧ ∀ d ∈ ds, P d
  | [], _ => ⟨[], .nil, fun _ h => nomatch h⟩
  | y :: ys, h => by
    obtain ⟨d, h1, h2⟩ := h 0 y rfl
    obtain ⟨ds, h3, h4⟩ := dpa_ex (ys := ys) fun j z e => h (j + 1) z e
    exact ⟨d :: ds, .cons h1 h3, fun x hx => by rcases List.mem_cons.mp hx with rfl | hx; exact h2; exact h4 x hx⟩
end Toy
set_option maxHeartbeats 4000000
namespace LX
open PySem PySem.Spec PyProof.Rows L2 C8 SX
structure PrX (P : Program) (w : World) (K : PySem.W.Frag) (mg : Str → Option Value) (base : Heap) (k : Nat) (C : Addr) (f : Str) (sp : Sp) : Prop where
  ex : ∃ (p g : Addr) (fd : FuncData) (ps : List Str), Cls K C ∧ PropOf K C f p g ∧ FnOk P w K mg base C8.CX0 k g fd ps sp ∧ Binds K fd ps []
theorem pe_prX {X : Cx} {k j : Nat} {C : Addr} {f : Str} {sp : Sp} {e : Expr} {pos : Pos} {ta : TE} (c : PrX X.prog X.w X.K X.mg X.base k C f sp) (hr : Room j X.A) (hk : k + 1 ≤ j) (he : PE X e ta) (hab : attributeBase e f X.env (eval e X.env) = eval e X.env := by rfl) :
    PE X (.Attribute e f pos) (tProp C sp [] C8.E0 ta) := by
  obtain ⟨p, g, fd, ps, cl, hp, F, hb⟩ := c.ex
  exact pe_prop he cl hp F (hr.mono hk) hb .nil C8.pass0 hab
theorem starts1 (l : List Nat) (c : Nat) : Txt.startswith (S l) (S [c]) = decide (l.head? = some c) := by
  unfold Txt.startswith
  rw [PySem.StrLaws.subAt_eq]
  have e1 : (S l).cps.toList = l := by simp [S]
  have e2 : (S [c]).cps.toList = [c] := by simp [S]
  rw [e1, e2, S_len, S_len]
  cases l with
  | nil => rfl
  | cons d r => by_cases h : d = c <;> simp [h]
theorem ends1 (l : List Nat) (c : Nat) : Txt.endswith (S l) (S [c]) = decide (l.getLast? = some c) := by
  unfold Txt.endswith
  rw [PySem.StrLaws.subAt_eq]
  have e1 : (S l).cps.toList = l := by simp [S]
  have e2 : (S [c]).cps.toList = [c] := by simp [S]
  rw [e1, e2, S_len, S_len]
  rcases List.eq_nil_or_concat l with rfl | ⟨r, d, rfl⟩
  · rfl
  · by_cases h : d = c <;> simp [h]
theorem slice_mid (c d : Nat) (a : List Nat) : Txt.slice (S (c :: (a ++ [d]))) (some 1) (some (-1)) = S a := by
  have hl : (S (c :: (a ++ [d]))).length = a.length + 2 := by rw [S_len]; simp
  have e0 : Txt.slice (S (c :: (a ++ [d]))) (some 1) (some (-1)) = Txt.slice (S (c :: (a ++ [d]))) (some 1) (some ((a.length : Int) + 1)) := by
    have e := PySem.StrLaws.sliceText_neg_hi (S (c :: (a ++ [d]))) (some 1) (j := -1) (by omega) (by rw [hl]; omega)
    rw [hl] at e
    refine Eq.trans e ?_
    rw [show (-1 + ((a.length + 2 : Nat) : Int)) = (a.length : Int) + 1 by omega]
    rfl
  rw [e0]
  have e := beq_iff_eq.mp (PyProof.Rows.slice_closes (x := S (c :: (a ++ [d]))) (i := 1) (j := (a.length : Int) + 1) ⟨by omega, by omega, by simp [S]; omega⟩)
  refine e.trans (TL.ext_tl ?_)
  show (((S (c :: (a ++ [d]))).cps.toList.drop (1 : Int).toNat).take ((a.length : Int) + 1 - 1).toNat) = a
  rw [show (1 : Int).toNat = 1 from rfl, show ((a.length : Int) + 1 - 1).toNat = a.length by omega, show (S (c :: (a ++ [d]))).cps.toList = c :: (a ++ [d]) by simp [S]]
  simp
end LX
set_option maxHeartbeats 2000000
namespace LX
open PySem PySem.Spec PyProof.Rows L2 C8 SX
section
variable {X : Cx}
def tRevLX (K : PySem.W.Frag) (te ts : TE) : TE := fun σ H Q => te σ H fun x H1 => ts σ H1 fun y H2 => ∃ i, y = .int i ∧ (some i = some (-1) ∧ ∃ (a : Addr) (xs : List V), x = .ref a ∧ SqL K H2 a xs ∧ ∀ p, H2 p = none → Q (.ref p) (upd H2 p (.lst xs.reverse)))
theorem pe_revLX {e st : Expr} {te ts : TE} {p3 pos : Pos} (K : PySem.W.Frag) (he : PE X e te) (hs : PE X st ts) (hK : X.K = K := by rfl) : PE X (.Subscript e (.Slice none none (some st) p3) pos) (tRevLX K te ts) := by
  subst hK
  refine ⟨fun pins s σ H Q I h => ?_⟩
  refine Subscript_ (thn (he.run pins s σ H _ I h) fun v s1 ⟨x, H1, I1, r1, q1⟩ => ?_)
  have hst : PO X (some st) (tPart ts) := po_some hs
  refine wpAny_Slice (thn (po_none.run pins s1 σ H1 (fun o H2 => o = none ∧ H2 = H1) I1 ⟨rfl, rfl⟩) fun vl s2 ⟨l, H2, I2, pl, el, e2⟩ => ?_)
  subst el e2
  refine thn (po_none.run pins s2 σ H2 (fun o H3 => o = none ∧ H3 = H2) I2 ⟨rfl, rfl⟩) fun vu s3 ⟨u, H3, I3, pu, eu, e3⟩ => ?_
  subst eu e3
  refine thn (hst.run pins s3 σ H3 (fun o H4 => o = some (-1) ∧ ∃ (a : Addr) (xs : List V), x = .ref a ∧ SqL X.K H4 a xs ∧ ∀ p, H4 p = none → Q (.ref p) (upd H4 p (.lst xs.reverse))) I3 q1) fun vs s4 ⟨o, H4, I4, ps, eo, a, xs, ex, hx, q⟩ => ?_
  subst eo ex
  cases r1
  have I5 : Inv X pins σ H4 { s4 with heap := s4.heap.push { cls := .type "slice", data := .fields #[vl, vu, vs] } } := I4.kept (t' := s4.toks) fun b ob q => Heap.get?_push_of_some _ q
  obtain ⟨its, r, ht, hz⟩ := I5.list hx
  have hlen := r.length
  show wpAny (model X.prog X.w) X.A (subscriptTail e (.Slice none none (some st) p3) (.ref a) (.ref s4.heap.objs.size)) (EP X pins σ Q) X.xe { s4 with heap := s4.heap.push { cls := .type "slice", data := .fields #[vl, vu, vs] } }
  refine tail_any (ops := [.ref a, .ref s4.heap.objs.size]) ht.isList.typeIs (PySem.slot_list_getitem.lookup) ?_ (by with_unfolding_all rfl)
  refine wpAny_getItem_list_slice ht.isList (Heap.IsSliceOf.new _ vl vu vs) pl pu ps (by decide) ?_ (by rw [List.size_toArray]; omega)
  rw [PySem.W.krv_pick]
  refine ⟨.ref _, _, I5.laid (t' := s4.toks) (o := .lst xs.reverse) (fun b ob q => Heap.get?_push_of_some _ q) (Nat.le_refl _) ?_, rfl, q _ (I5.hok.fresh (Nat.le_refl _))⟩
  exact ⟨by rw [List.length_reverse]; exact hz, _, 0, r.reverse, Heap.get?_push_size _ rfl⟩
end
def NL (H H' : Hp) : Prop := ∀ a o, H a = some o → (∀ xs, o ≠ .lst xs) → H' a = some o
theorem NL.refl (H : Hp) : NL H H := fun _ _ e _ => e
theorem NL.trans {H H1 H2 : Hp} (p : NL H H1) (q : NL H1 H2) : NL H H2 := fun a o e n => q a o (p a o e n) n
theorem nl_same {H H' : Hp} (s : Same H H') : NL H H' := fun a o e _ => s a o e
theorem nl_lset {H : Hp} {a : Addr} {xs ys : List V} (h : H a = some (.lst xs)) : NL H (upd H a (.lst ys)) := fun b o e n => by
  rw [upd_ne (fun z => by rw [z, h] at e; exact n xs (Option.some.inj e).symm)]; exact e
end LX
set_option maxHeartbeats 2000000
namespace LX
open PySem PySem.Spec PyProof.Rows L2 C8 SX
section
variable {X : Cx} {k j : Nat} {C : Addr} {sp : Sp}
theorem met_run0 {mth : Str} {pins : List (Addr × Obj)} {σ : L2.St} {H : Hp} {s : Shared} {A : Around} {a : Addr} {Q : Value → Shared → Prop} (c : Met X.prog X.w X.K X.mg X.base k C mth sp []) (hr : Room k A) (hfr : A.frames = X.A.frames) (I : Inv X pins σ H s)
    {R : VK} (hsp : sp [.ref a] H R C8.E0) (hQ : ∀ v z H' s', Inv X pins σ H' s' → RelV z v → R z H' → Q v s') :
    ∃ f, PySem.W.findIn X.K (.ref C) mth = some (some (.ref f)) ∧ PySem.W.isFn X.K (.ref f) = true ∧ wpAny (model X.prog X.w) A (call (.ref f) [.ref a]) Q X.xe s := by
  obtain ⟨f, fd, ps, ds, hc, hm, F, hb, hd⟩ := c.ex
  refine ⟨f, hm.at_, hm.fn, ?_⟩
  have e0 : Env0 X.prog X.w X.K X.mg X.base A X.stack s H := by
    have e := I.env0
    exact ⟨by rw [hfr]; exact e.frames, e.mod, e.bs, e.bsz, e.funs, e.frf, e.hok, e.bare⟩
  have hds : ds = [] := by cases hd; rfl
  subst hds
  have hl := F.len _ _ _ _ hsp
  have r2 : Vals [V.ref a] [Value.ref a] := .cons rfl .nil
  refine wpAny_call (codeAny_mono (F.run A X.stack s H ⟨[.ref a], []⟩ [.ref a] [.ref a] _ C8.E0 hr e0 (by
    have := hb s [.ref a] I.kIn (by simpa using hl)
    simpa using this) r2 hsp) fun r s' hq => ?_)
  cases r with
  | error e => exact C8.pass0 (E := C8.E0) pins σ H s e s' I hq
  | ok fl =>
    cases fl with
    | ret w =>
      obtain ⟨z, H', I', rz, q⟩ := I.after hq
      exact hQ w z H' s' I' rz q
    | next => exact False.elim hq
    | brk => exact False.elim hq
    | cont => exact False.elim hq
theorem call_strI (c : Met X.prog X.w X.K X.mg X.base k C "__str__" sp []) (hr : Room j X.A) (hk : k + 2 ≤ j) : CallR X (.type "str") (fun xs H Q => ∃ a dx fs, xs = [.ref a] ∧ H a = some (.ins C dx fs) ∧ sp [.ref a] H (fun v H' => ∃ z, v = .str z ∧ Q (.str z) H') C8.E0) := by
  intro pins s σ H xs us Q I rel want
  obtain ⟨a, dx, fs, rfl, ha, hsp⟩ := want
  obtain ⟨u, rfl, ru⟩ := vals1 rel
  cases ru
  obtain ⟨mA, J, _⟩ := ins_get I.hok ha
  obtain ⟨od, J, _⟩ := J.look
  have r2 : Room k X.A.in1.in1 := (hr.mono hk).in1.in1
  obtain ⟨f, hs, hf, hw⟩ := met_run0 (A := X.A.in1.in1) (Q := PySem.W.StrBack (EP X pins σ Q)) c r2 rfl I hsp (fun v z H' s' I' rz q => by
    obtain ⟨y, rfl, q⟩ := q
    obtain ⟨t, rfl⟩ := rz
    exact ⟨.str y, H', I', ⟨t, rfl⟩, q⟩)
  exact PySem.W.kso_call r2.units0 I.kIn J hs hf hw
end
end LX
set_option maxHeartbeats 4000000
namespace LX
open PySem PySem.Spec PyProof.Rows L2 C8 SX
section
variable {X : Cx} {k j : Nat} {C : Addr} {sp : Sp}
theorem call_lenI (c : Met X.prog X.w X.K X.mg X.base k C "__len__" sp []) (hr : Room j X.A) (hk : k + 1 ≤ j) : CallR X (.builtin "len") (fun xs H Q => ∃ a dx fs, xs = [.ref a] ∧ H a = some (.ins C dx fs) ∧ sp [.ref a] H (fun v H' => ∃ n : Nat, v = .int (n : Nat) ∧ n ≤ 1000 ∧ Q (.int (n : Nat)) H') C8.E0) := by
  intro pins s σ H xs us Q I rel want
  obtain ⟨a, dx, fs, rfl, ha, hsp⟩ := want
  obtain ⟨u, rfl, ru⟩ := vals1 rel
  cases ru
  obtain ⟨mA, J, _⟩ := ins_get I.hok ha
  obtain ⟨od, J, _⟩ := J.look
  have r2 : Room k X.A.in1 := (hr.mono hk).in1
  obtain ⟨m, hF⟩ := I.fr
  obtain ⟨f, hs, hf, hw⟩ := met_run0 (A := X.A.in1) (Q := PySem.W.LenBack (EP X pins σ Q)) c r2 rfl I hsp (fun v z H' s' I' rz q => by
    obtain ⟨n, rfl, hn, q⟩ := q
    obtain ⟨t, rfl⟩ := rz
    exact ⟨⟨by omega, by omega⟩, .int (n : Nat), H', I'.tok _, ⟨_, rfl⟩, q⟩)
  exact PySem.W.len_K hF I.ok.mod.kin J hs hf hw
def SameR (xs ys : List V) : Prop := ∀ (i : Nat) u v, xs[i]? = some u → ys[i]? = some v → u = v ∧ ∃ c, u = .ref c
theorem same_items {A : Around} {s : Shared} {xs ys : List V} {us ws : List Value} (r1 : Vals xs us) (r2 : Vals ys ws) (h : SameR xs ys) (i : Nat) (h1 : i < us.toArray.size) (h2 : i < ws.toArray.size) : SeqAt.EqAt A s us.toArray[i] ws.toArray[i] true := by
  have g1 : us[i]? = some us.toArray[i] := by
    have h1' : i < us.length := by simpa using h1
    rw [List.getElem?_eq_getElem h1'] <;> simp
  have g2 : ws[i]? = some ws.toArray[i] := by
    have h2' : i < ws.length := by simpa using h2
    rw [List.getElem?_eq_getElem h2'] <;> simp
  have k1 : i < xs.length := by rw [r1.length]; simpa using h1
  have k2 : i < ys.length := by rw [r2.length]; simpa using h2
  obtain ⟨u, hu, ru⟩ := r1.get (List.getElem?_eq_getElem k1)
  obtain ⟨v, hv, rv⟩ := r2.get (List.getElem?_eq_getElem k2)
  rw [g1] at hu
  rw [g2] at hv
  rw [Option.some.inj hu, Option.some.inj hv]
  obtain ⟨e, c, ec⟩ := h i _ _ (List.getElem?_eq_getElem k1) (List.getElem?_eq_getElem k2)
  rw [← e] at rv
  rw [ec] at ru rv
  cases ru
  cases rv
  exact SeqAt.EqAt.same _
def rEqId (K : PySem.W.Frag) : R2 := fun x y H Q => ∃ a b xs ys, x = .ref a ∧ y = .ref b ∧ SqT K H a xs ∧ SqT K H b ys ∧ SameR xs ys ∧ Q (.bl (decide (xs.length = ys.length))) H
def rNeId (K : PySem.W.Frag) : R2 := fun x y H Q => ∃ a b xs ys, x = .ref a ∧ y = .ref b ∧ SqT K H a xs ∧ SqT K H b ys ∧ SameR xs ys ∧ Q (.bl (!decide (xs.length = ys.length))) H
theorem len_eq {xs ys : List V} {us ws : List Value} (r1 : Vals xs us) (r2 : Vals ys ws) : ((List.range (min us.toArray.size ws.toArray.size)).all (fun _ => true) && us.toArray.size == ws.toArray.size) = decide (xs.length = ys.length) := by
  rw [List.all_eq_true.mpr fun _ _ => rfl, Bool.true_and, List.size_toArray, List.size_toArray, ← r1.length, ← r2.length, Bool.eq_iff_iff, beq_iff_eq, decide_eq_true_eq]
theorem op_eqId (hu : X.A.units < cLine) : OpR X (compareOp .Eq) (rEqId X.K) := by
  intro pins s σ H x y v u Q I rx ry h
  obtain ⟨a, b, xs, ys, rfl, rfl, ha, hb, all, q⟩ := h
  cases rx
  cases ry
  obtain ⟨its, r, p, _⟩ := I.tuple ha
  obtain ⟨its2, r2, p2, _⟩ := I.tuple hb
  refine SeqAt.eq_tupleAt (e := fun _ => true) p p2 hu (fun i h1 h2 => same_items r r2 all i h1 h2) ⟨.bl _, H, I, ?_, q⟩
  rw [len_eq r r2]; rfl
theorem op_neId (hu : X.A.units < cLine) : OpR X (compareOp .NotEq) (rNeId X.K) := by
  intro pins s σ H x y v u Q I rx ry h
  obtain ⟨a, b, xs, ys, rfl, rfl, ha, hb, all, q⟩ := h
  cases rx
  cases ry
  obtain ⟨its, r, p, _⟩ := I.tuple ha
  obtain ⟨its2, r2, p2, _⟩ := I.tuple hb
  refine SeqAt.RcNeAt.tuples (e := fun _ => true) p p2 hu (fun i h1 h2 => same_items r r2 all i h1 h2) X.prog X.w X.xe _ ⟨.bl _, H, I, ?_, q⟩
  rw [len_eq r r2]; rfl
theorem op_eqIdK (K : PySem.W.Frag) (hr : Room j X.A) (h : X.K = K := by rfl) : OpR X (compareOp .Eq) (rEqId K) := by subst h; exact op_eqId hr.units0
theorem op_neIdK (K : PySem.W.Frag) (hr : Room j X.A) (h : X.K = K := by rfl) : OpR X (compareOp .NotEq) (rNeId K) := by subst h; exact op_neId hr.units0
def gSl (to : TE) (tl th : TO) : TG := fun v σ H Q => to σ H fun o H1 => tl σ H1 fun l H2 => th σ H2 fun u H3 => ∃ p b xs ys a c, o = .ref p ∧ v = .ref b ∧ l = some a ∧ u = some c ∧ p ≠ b ∧ H3 p = some (.lst xs) ∧ H3 b = some (.lst ys) ∧ 0 ≤ a ∧ a ≤ c ∧ c ≤ xs.length ∧ xs.length + ys.length ≤ sizeLine ∧
  Q σ (upd H3 p (.lst (xs.take a.toNat ++ ys ++ xs.drop c.toNat)))
theorem pg_slice {o : Expr} {lo hi : Option Expr} {p2 pos : Pos} {to : TE} {tl th : TO} (ho : PE X o to) (hl : PO X lo tl) (hu : PO X hi th)
    (ha : ∀ v, assign (.Subscript o (.Slice lo hi none p2) pos) X.env v = (do
      let ov ← holding [v] (eval o X.env)
      let iv ← holding [v, ov] (eval (.Slice lo hi none p2) X.env)
      standAt pos
      holding [v, ov, iv] (setItem ov iv v)
      release [iv, v, ov] []) := by intro _; rfl) : PG X (.Subscript o (.Slice lo hi none p2) pos) (gSl to tl th) := by
  refine ⟨fun pins s σ H v u Q I r h => ?_⟩
  rw [ha]
  refine wpAny_bind (wpAny_holding (thn (ho.run pins s σ H _ I h) fun ov s1 ⟨x, H1, I1, r1, q1⟩ => ?_))
  refine wpAny_bind (wpAny_holding (wpAny_Slice (thn (hl.run pins s1 σ H1 _ I1 q1) fun vl s2 ⟨l, H2, I2, pl, q2⟩ => thn (hu.run pins s2 σ H2 _ I2 q2) fun vu s3 ⟨c, H3, I3, pu, q3⟩ => ?_)))
  rw [evalPart_none]
  refine wpAny_pure ?_
  have I4 : Inv X pins σ H3 { s3 with heap := s3.heap.push { cls := .type "slice", data := .fields #[vl, vu, .none] } } := I3.kept (t' := s3.toks) fun b ob q => Heap.get?_push_of_some _ q
  obtain ⟨p, b, xs, ys, a, c, rfl, rfl, rfl, rfl, hne, hp, hb, h0, hac, hc, hz, q⟩ := q3
  cases r1
  cases r
  cases pl
  cases pu
  refine wpAny_bind (wpAny_standAt (wpAny_bind (wpAny_holding (set_slice I4 hp hb hne (Heap.IsSliceOf.new _ _ _ _) ⟨_, rfl⟩ ⟨_, rfl⟩ h0 hac hc hz fun s5 I5 => ?_))))
  exact wpAny_release ⟨σ, _, I5, q⟩
end
end LX
namespace LX
open PySem PySem.Spec PyProof.Rows L2 C8 SX
theorem ext_tup (l : Addr) (items : Array Value) (n : Nat) (b : Addr) (items2 : Array Value) (n2 : Nat) (dd : Option Addr) (sl : Array (Option Value)) (hs0 : ¬(!items.isEmpty && Builtin.List.listTooLong (items.size + items2.size)) = true) (hs1 : items.size ≤ sizeLine) (hs2 : items.size + items2.size ≤ sizeLine + 1) :
    Meets (Builtin.«list.extend» ⟨[.ref l, .ref b], []⟩) (fun _ R s => s.heap.get? l = some { cls := .type "list", data := .seq items n } ∧ s.heap.get? b = some { cls := .type "tuple", dict := dd, data := .seq items2 n2, slots := sl } ∧ R (.ok (.ret Value.none)) { s with heap := s.heap.update l (Obj.mapSeq fun x => x ++ items2) }) :=
  .of_wp fun prog w A R s h => by
    obtain ⟨hl, hb, h⟩ := h
    obtain ⟨hp, g, d, tk, os⟩ := s
    have f1 := PySem.AutoSeq1.sub_tuple_tuple
    have f2 := PySem.AutoSeq1.sub_list_list
    have f3 := PySem.AutoSeq1.sub_tuple_list
    have f4 := PySem.AutoSeq1.sub_list_tuple
    have hz' : (items ++ items2).size ≤ sizeLine + 1 := by rw [Array.size_append]; exact hs2
    wp_walk using (wpAny_updateSeq hl rfl (hz := hs1) (_hz' := hz')), PySem.AutoSeq1.wpAny_loadPart' hl, PySem.AutoSeq1.wpAny_loadPart' hb
    exact ⟨_, rfl, h⟩
section
variable {X : Cx}
def rExtendT : V → List V → Hp → VK → Prop := fun x vs H Q => ∃ l b xs zs, x = .ref l ∧ vs = [.ref b] ∧ H l = some (.lst xs) ∧ H b = some (.tup zs) ∧ xs.length + zs.length ≤ sizeLine ∧ Q .non (upd H l (.lst (xs ++ zs)))
theorem mt_extendT : MtM X "list.extend" rExtendT := by
  intro pins s σ H x vs v us Q I rx rv h
  obtain ⟨l, b, xs, zs, rfl, rfl, hH, hB, hz, q⟩ := h
  cases rx
  obtain ⟨u, rfl, ru⟩ := rv.one
  cases ru
  obtain ⟨z, its, n, r, hl, e⟩ := I.lstM hH
  obtain ⟨hl2, its2, r2, e2⟩ := (show ObjOk X.prog X.w H s.heap b (.tup zs) from I.hok b _ hB)
  have q2 := r2.length
  have q1 := r.length
  obtain ⟨⟨cls, dd, data, sl⟩, e2, hc, n2, hd⟩ := e2
  simp only at hc hd
  subst hc hd
  have hsz : its.toArray.size + its2.toArray.size ≤ sizeLine := by rw [List.size_toArray, List.size_toArray]; omega
  have hlong : ¬ (!its.toArray.isEmpty && Builtin.List.listTooLong (its.toArray.size + its2.toArray.size)) = true := by
    rw [notLongL hsz, Bool.and_false]
    exact Bool.false_ne_true
  refine call_meets F.slot_list_extend ⟨_, e, rfl⟩ F.entry_list_extend (F.args_list_extend_2 _ _)
    (ext_tup l its.toArray n b its2.toArray n2 dd sl hlong (by rw [List.size_toArray]; omega) (by omega)) ⟨e, e2, ?_⟩
  refine ⟨.non, _, I.lset (its' := its ++ its2) hH e (by simp) (r.append r2) ?_, rfl, q⟩
  rw [List.length_append]
  omega
end
end LX
set_option maxHeartbeats 4000000
namespace LX
open PySem PySem.Spec PyProof.Rows L2 C8 SX
structure MakXK (P : Program) (w : World) (K : PySem.W.Frag) (mg : Str → Option Value) (base : Heap) (k : Nat) (x : Str) (C : Addr) (ks : List Str) (gV : List V → List V → List V) (sp : Sp) : Prop where
  ex : ∃ (f : Addr) (fd : FuncData) (ps : List Str) (g : List Value → List Value → List Value), Mk K C f ∧ FnOk P w K mg base (L2.CX P w) k f fd ps sp ∧ mg x = some (.ref C) ∧ KBn K fd ps 1 ks g gV
def tMakeK (C : Addr) (m : Nat) (sp : Sp) (gV : List V → List V → List V) (E : L2.St → XK) (tk : TA) : TE := fun σ H Q => tk σ H fun zs H2 => zs.length = m ∧
  ∀ x dx, H2 x = none → H2 dx = none → dx ≠ x → sp (gV [.ref x] zs) (upd (upd H2 dx (.own x)) x (.ins C dx [])) (fun v H3 => v = .non ∧ Q (.ref x) H3) (E σ)
section
variable {X : Cx} {k j : Nat} {C : Addr} {sp : Sp} {x : Str} {ks : List Str} {p pos : Pos} {tk : TA} {kws : List Keyword} {W : WX} {gV : List V → List V → List V}
theorem pe_mkXk (c : MakXK X.prog X.w X.K X.mg X.base k x C ks gV sp) (tk' : Takes X W) (hr : Room j X.A) (hk : k + 1 ≤ j) (hg : Gl X x) (hkw : PK X kws tk) (hall : (backToKw pos (keywordEach kws X.env)).all (·.1.isSome) = true := by rfl) (hks : (backToKw pos (keywordEach kws X.env)).filterMap (·.1) = ks := by rfl)
    (hdb : (x == ("__debug__" : Str)) = false := by decide)
    (hpl : ((backTo pos (starEach [] X.env)).any (·.1) || (backToKw pos (keywordEach kws X.env)).any (·.1.isNone)) = false := by rfl) : PE X (.Call (.Name x p) [] kws pos) (tMakeK C ks.length sp gV (WE W) tk) := by
  obtain ⟨f, fd, ps, g, M, F, hm, kb⟩ := c.ex
  refine ⟨fun pins s σ H Q I h => ?_⟩
  refine wpAny_Call_Name_kw (ld_glob I hg hm ?_ hdb)
  refine PySem.W.callWith_KW0 (h₀ := X.base) I.ok.mod.kin M.kp hall (thn (hkw.run pos pins s σ H _ I h) fun ws s2 ⟨zs, H2, I2, rz, hz, q2⟩ => ⟨I2.kIn, ?_⟩) hpl
  rw [hks]
  have hq := q2 (s2.heap.objs.size + 1) s2.heap.objs.size (I2.hok.fresh (Nat.le_succ _)) (I2.hok.fresh (Nat.le_refl _)) (Nat.ne_of_lt (Nat.lt_succ_self _))
  have I3 := Inv.made (C := C) I2
  have r2 := kb.rel (vs := [V.ref (s2.heap.objs.size + 1)]) (us := [Value.ref (s2.heap.objs.size + 1)]) (.cons rfl .nil) rz
  have e2 : ws.length = ks.length := rz.length.symm.trans hz
  refine wpAny_call (make_map (f := f) I2.kIn M.makes M.init (beq_iff_eq.mp M.fn) (codeAny_mono (F.run _ X.stack _ _ ⟨[Value.ref (s2.heap.objs.size + 1)], ks.zip ws⟩ (g [Value.ref (s2.heap.objs.size + 1)] ws) _ _ (WE W σ) ((hr.mono hk).make C [] (ks.zip ws))
    (I3.env0.make C [] (ks.zip ws)) (kb.to _ [Value.ref (s2.heap.objs.size + 1)] ws I3.kIn rfl e2) r2 hq) fun r s' hq' => ?_))
  cases r with
  | error e => exact passAt tk' σ pins _ _ e s' I3 hq'
  | ok fl =>
    cases fl with
    | ret u =>
      obtain ⟨v, H', I4, rv, ev, q3⟩ := I3.after hq'
      subst ev
      exact ⟨rv, ⟨V.ref (s2.heap.objs.size + 1), H', I4, rfl, q3⟩⟩
    | next => exact False.elim hq'
    | brk => exact False.elim hq'
    | cont => exact False.elim hq'
end
end LX
set_option maxHeartbeats 4000000
namespace LX
open PySem PySem.Spec PyProof.Rows L2 C8 SX
section
variable {prog : Program} {w : World} {A : Around} {E : Value → Shared → Prop} {s : Shared}
theorem set_of_listI {l : Addr} {items : Array Value} {ns : List Int} {Q : Value → Shared → Prop} (hh : A.handled = none) (hl : s.heap.IsList l items) (hi : IntsAre items.toList ns) (room : ns.length + 1 < scanBound)
    (h : ∀ (h' : Heap) (tk c : Nat), SetR w h' s.heap.objs.size (fun j => decide (j ∈ ns)) c → c ≤ ns.length → (∀ b o, s.heap.get? b = some o → h'.get? b = some o) → Q (.ref s.heap.objs.size) { s with heap := h', toks := tk }) :
    wpAny (model prog w) A (call (.type "set") [.ref l]) Q E s := by
  obtain ⟨c, tl, hmro⟩ := PySem.F.called_set.mro
  have hmade := PySem.F.called_set.made
  have hsub := PySem.F.called_set.sub
  refine wpAny_call (codeAny_of_tree ?_)
  refine wpAny_pure ⟨Code.quiet_builtin _ (by decide +kernel), codeAny_builtin PySem.F.entry_type_call ?_⟩
  rw [Around.under_plain (weight_type_call_type "set" [.ref l] []) rfl]
  have nt := PySem.F.called_set.notType
  have cc := PySem.F.called_set.canCreate
  have ct := PySem.F.typeCall_set_1 (.ref l)
  repeat (any_goals (first | assumption | wp_step))
  refine codeAny_mono (code_set_led1 (.ref l) (E := E) (Q₁ := fun obj s1 => obj = .ref s.heap.objs.size ∧ s1 = { s with heap := s.heap.push (setO (!w.params.followText "set-order")) }) ⟨rfl, rfl⟩) fun r s1 hr => ?_
  match r, hr with
  | .ok (.ret obj), hr =>
    obtain ⟨rfl, rfl⟩ := hr
    have hS : (s.heap.push (setO (!w.params.followText "set-order"))).get? s.heap.objs.size = some (setO (!w.params.followText "set-order")) := Heap.get?_push_size _ rfl
    have hTy : Shared.TypeIs { s with heap := s.heap.push (setO (!w.params.followText "set-order")) } (.ref s.heap.objs.size) "set" := ⟨_, hS, rfl⟩
    have li := PySem.F.called_set.init.lookup
    have bi := PySem.F.called_set.init.bind (.ref s.heap.objs.size)
    repeat (any_goals (first | assumption | wp_step))
    refine codeAny_mono (codeAny_call_builtin (R := wants (fun r s2 => r = .none ∧ ∃ h' tk, s2 = { s with heap := h', toks := tk } ∧ (∃ c, SetR w h' s.heap.objs.size (fun j => decide (j ∈ ns)) c ∧ c ≤ ns.length) ∧ (∀ b o, s.heap.get? b = some o → h'.get? b = some o)) E)
      PySem.F.called_set.init.plain PySem.F.entry_set_init (check_set_init_1 hTy ?_)) fun r2 s2 hr2 => ?_
    · obtain ⟨⟨oc, od, odt, osl⟩, hol, hcl, nl, hdl⟩ := hl
      dsimp only at hcl hdl
      subst hcl hdl
      have hol' : (s.heap.push (setO (!w.params.followText "set-order"))).get? l = some { cls := .type "list", dict := od, data := .seq items nl, slots := osl } := Heap.get?_push_of_some _ hol
      have ss := PySem.F.sub_list_set
      have sf := PySem.F.sub_list_frozenset
      have ne : (Value.type "list" == Value.type "dict") = false := by decide
      have hl1 : (s.heap.push (setO (!w.params.followText "set-order"))).IsList l items := ⟨_, hol', rfl, nl, rfl⟩
      unfold Builtin.«set.__init__» noKeywords Builtin.Frozenset.updateFrom
      generalize hPI : pyIter = PI
      wp_walk
      subst hPI
      refine wpAny_pyIter_list hl1 ?_
      refine wpAny_bind (wpAny_runValue ?_)
      have hlS : l < s.heap.objs.size := Heap.lt_size hol
      have hz : (s.heap.push (setO (!w.params.followText "set-order"))).objs.size = s.heap.objs.size + 1 := Heap.size_push ..
      have neI : l ≠ (s.heap.push (setO (!w.params.followText "set-order"))).objs.size := by rw [hz]; exact Nat.ne_of_lt (Nat.lt_succ_of_lt hlS)
      have off : s.heap.objs.size ∉ [(s.heap.push (setO (!w.params.followText "set-order"))).objs.size, l] := by
        rw [hz]; simp only [List.mem_cons, List.not_mem_nil, or_false, not_or]
        exact ⟨Nat.ne_of_lt (Nat.lt_succ_self _), Nat.ne_of_gt hlS⟩
      have hsz : items.size = ns.length := by have q := IntsAre.length hi; rw [Array.length_toList] at q; exact q
      refine set_update_ints ((Walks.list (A := A.in1.in1.in1) (by simp [hh]) _ l neI items).toS) s.heap.objs.size off ns hsz room (fun i v hv => ?_) _ 0 _ rfl (Nat.zero_le _) ⟨⟨_, Heap.get?_push_size _ rfl, rfl, rfl⟩, hl1.push _⟩ ⟨0, Nat.le_refl _, setR_new_at (Heap.get?_push_of_some _ hS)⟩ fun s' c hm hc hS' => ?_
      · have hlt : i < ns.length := by rw [← hsz]; exact (Array.getElem?_eq_some_iff.mp hv).1
        obtain ⟨t, e⟩ := PyProof.Rows.IntsAre.int_at hi i v (by rw [Array.getElem?_toList]; exact hv)
        exact ⟨ns[i], t, List.getElem?_eq_getElem hlt, by rw [e, List.getD_eq_getElem?_getD, List.getElem?_eq_getElem hlt]; rfl⟩
      · obtain ⟨h', g', d', tk', os'⟩ := s'
        obtain rfl : g' = s.gens := hm.gens
        obtain rfl : d' = s.drawn := hm.drawn
        obtain rfl : os' = s.os := hm.os
        refine wpAny_pure (wpAny_pure ⟨rfl, h', tk', rfl, ⟨c, hS', by rw [← hsz]; exact hc⟩, fun b o e => ?_⟩)
        have hb : b < s.heap.objs.size := Heap.lt_size e
        refine hm.heap b o (fun hmem => ?_) (Heap.get?_push_of_some _ (Heap.get?_push_of_some _ e))
        have e' : b = s.heap.objs.size ∨ b = (s.heap.push (setO (!w.params.followText "set-order"))).objs.size := by simpa using hmem
        rcases e' with e' | e'
        · exact Nat.ne_of_lt hb e'
        · rw [hz] at e'; exact Nat.ne_of_lt (Nat.lt_succ_of_lt hb) e'
    · match r2, hr2 with
      | .ok (.ret r), hr2 =>
        obtain ⟨rfl, h', tk, rfl, ⟨c, hS', hc⟩, hk'⟩ := hr2
        repeat (any_goals (first | assumption | wp_step))
        exact h _ _ _ hS' hc hk'
      | .error e, hr2 => exact hr2
  | .error e, hr => exact hr
end
section
variable {X : Cx}
theorem sortI_run {pins : List (Addr × Obj)} {σ : L2.St} {H1 : Hp} {Q : VK} {s1 : Shared} {a : Addr} {ns : List Int} {c : Nat} (hc : X.calm = true) (I2 : Inv X pins σ H1 s1) (hS : SetR X.w s1.heap a (fun j => decide (j ∈ ns)) c) (hcn : c ≤ ns.length) (hl : ns.length < 60)
    (q1 : ∀ (p : Addr) (ms : List Int), H1 p = none → ms.Pairwise (· < ·) → (∀ k, k ∈ ms ↔ k ∈ ns) → Q (.ref p) (upd H1 p (.lst (ms.map V.int)))) : wpAny (model X.prog X.w) X.A (call (.builtin "sorted") [.ref a]) (EP X pins σ Q) X.xe s1 := by
  refine sorted_set hS (I2.ok.hd hc) (by omega) fun s' p out cc ms k g o hp hg hi hs hmm hlen => ?_
  have hn : H1 p = none := I2.hok.fresh hp
  have hlen2 : (ms.map V.int).length ≤ sizeLine := by rw [List.length_map, sizeLine_eq]; omega
  have J : Inv X pins σ (upd H1 p (.lst (ms.map V.int))) { s1 with heap := s'.heap, gens := s'.gens, drawn := s'.drawn, toks := s'.toks } :=
    I2.call (ch := []) (Un.laid k hp hn) (I2.hok.laid k hp ⟨hlen2, out.toList, cc, vals_of_ints hi, hg⟩) (by rw [g]; exact I2.bare) (fun _ z => nomatch z)
  have e : s' = { s1 with heap := s'.heap, gens := s'.gens, drawn := s'.drawn, toks := s'.toks } := by
    cases s'; cases s1; cases o; rfl
  rw [e]
  exact ⟨.ref p, _, J, rfl, q1 p ms hn hs fun z => by rw [hmm z, decide_eq_true_eq]⟩
def tSortSetI (K : PySem.W.Frag) (ta : TE) : TE := fun σ H Q => ta σ H fun x H1 => ∃ (l : Addr) (ns : List Int), x = .ref l ∧ SqL K H1 l (ns.map V.int) ∧ ns.length < 60 ∧ ∀ (p : Addr) (ms : List Int), H1 p = none → ms.Pairwise (· < ·) → (∀ k, k ∈ ms ↔ k ∈ ns) → Q (.ref p) (upd H1 p (.lst (ms.map V.int)))
theorem pe_sortSetI {a : Expr} {ta : TE} {p p2 q pos : Pos} (hc : X.calm = true) (hg : Gl X "sorted") (hm : X.mg "sorted" = none) (hg2 : Gl X "set") (hm2 : X.mg "set" = none) (ha : PE X a ta)
    (na : starEach [a] X.env = (false, eval a X.env) :: starEach [] X.env := by rfl) : PE X (.Call (.Name "sorted" p) [.Call (.Name "set" p2) [a] [] q] [] pos) (tSortSetI X.K ta) := by
  refine ⟨fun pins s σ H Q I h => ?_⟩
  refine Call_ (ld_blt I hg hm PyProof.Rows.boot_sorted (PyProof.Rows.callWith_builtin1 (PyProof.Rows.args_cons ?_ rfl) rfl rfl))
  refine Call_ (ld_blt I hg2 hm2 PyProof.Rows.boot_set (PyProof.Rows.callWith_type1 (PyProof.Rows.args_cons (thn (ha.run pins s σ H _ I h) fun v s1 ⟨x, H1, I1, r1, q1⟩ => PyProof.Rows.args_nil ?_) na) na rfl))
  obtain ⟨l, ns, rfl, hq, hl, q1⟩ := q1
  cases r1
  obtain ⟨its, r, pl, hz⟩ := I1.list hq
  refine set_of_listI (ns := ns) (I1.ok.hd hc) pl.isList (by simpa using r.ints) (by unfold scanBound; omega) fun h' u c hS hcn hk => ?_
  refine PyProof.Rows.args_nil ?_
  exact sortI_run (s1 := { s1 with heap := h', toks := u }) hc (I1.kept hk) hS hcn hl q1
end
end LX
set_option maxHeartbeats 4000000
namespace LX
open PySem PySem.Spec PyProof.Rows L2 C8 SX
theorem sumK (K : PySem.W.Frag) {X : Cx} (hc : X.calm = true) (hK : X.K = K := by rfl) : CallR X (.builtin "sum") (rSum K) := by subst hK; exact cr_sum hc
theorem anyK (K : PySem.W.Frag) {X : Cx} (hc : X.calm = true) (hK : X.K = K := by rfl) : CallR X (.builtin "any") (rAny K) := by subst hK; exact cr_any hc
end LX
set_option maxHeartbeats 4000000
namespace LX
open PySem PySem.Spec PyProof.Rows L2 C8 SX
section
variable {X : Cx}
theorem lexIS (i j : Int) (r t : Str) : Ob.lexAt (fun k => if k = 0 then (i == j) else (r == t)) (fun k => if k = 0 then decide (j ≤ i) else !decide (r.cps.toList < t.cps.toList)) true 0 2 = (if i = j then !decide (r.cps.toList < t.cps.toList) else decide (j ≤ i)) := by
  rw [Ob.lexAt_succ, Ob.lexAt_succ, Ob.lexAt_zero]
  simp only [Nat.zero_add, if_true, Nat.one_ne_zero, if_false]
  by_cases h : i = j
  · subst h
    rw [if_pos (beq_self_eq_true _), if_pos rfl]
    by_cases h2 : r = t
    · subst h2
      rw [if_pos (beq_self_eq_true _), decide_eq_false (List.lt_irrefl _)]; rfl
    · rw [if_neg (by simpa using h2)]
  · rw [if_neg (by simpa using h), if_neg h]
theorem rc_ge_str {A : Around} {s : Shared} {r t : Str} {u v : Tok} : Ob.RcOp .GtE A s (.str r u) (.str t v) (!decide (r.cps.toList < t.cps.toList)) := fun _ _ _ _ h => PySem.P.ge_str h
theorem op_geIS {X : Cx} (hu : X.A.units < cLine) : OpR X (compareOp .GtE) (fun x y H Q => ∃ (a b : Addr) (i j : Int) (r t : Str), x = .ref a ∧ y = .ref b ∧ H a = some (.tup [.int i, .str r]) ∧ H b = some (.tup [.int j, .str t]) ∧ Q (.bl (if i = j then !decide (r.cps.toList < t.cps.toList) else decide (j ≤ i))) H) := by
  intro pins s σ H x y v u Q I rx ry h
  obtain ⟨a, b, i, j, r, t, rfl, rfl, ha, hb, q⟩ := h
  cases rx
  cases ry
  obtain ⟨its, r1, p1, _⟩ := I.tuple (SqT.of (K := X.K) ha)
  obtain ⟨its2, r2, p2, _⟩ := I.tuple (SqT.of (K := X.K) hb)
  have z1 : ∃ t1 t2, its = [Value.int i t1, .str r t2] := by
    cases r1 with
    | cons x1 r1 => cases r1 with
      | cons x2 r1 => cases r1 with
        | nil =>
          obtain ⟨t1, rfl⟩ := x1
          obtain ⟨t2, rfl⟩ := x2
          exact ⟨_, _, rfl⟩
  have z2 : ∃ t1 t2, its2 = [Value.int j t1, .str t t2] := by
    cases r2 with
    | cons x1 r1 => cases r1 with
      | cons x2 r1 => cases r1 with
        | nil =>
          obtain ⟨t1, rfl⟩ := x1
          obtain ⟨t2, rfl⟩ := x2
          exact ⟨_, _, rfl⟩
  obtain ⟨t1, t2, rfl⟩ := z1
  obtain ⟨t3, t4, rfl⟩ := z2
  have e1 : ([Value.int i t1, .str r t2] : List Value).toArray.size = 2 := rfl
  have e2 : ([Value.int j t3, .str t t4] : List Value).toArray.size = 2 := rfl
  have R := Ob.RcOp.tuples_ge (A := X.A) (s := s) (e := fun k => if k = 0 then (i == j) else (r == t)) (r := fun k => if k = 0 then decide (j ≤ i) else !decide (r.cps.toList < t.cps.toList)) p1 p2 hu ?he ?hr
  case he =>
    intro k h1 h2
    rw [e1] at h1
    match k, h1, h2 with
    | 0, _, _ => exact SeqAt.EqAt.int_int _ _ _ _
    | 1, _, _ => exact SeqAt.EqAt.str_str _ _ _ _
    | k + 2, h1, _ => omega
  case hr =>
    intro k h1 h2 _
    rw [e1] at h1
    match k, h1, h2 with
    | 0, _, _ => exact Ob.RcOp.ge_int _ _ _ _
    | 1, _, _ => exact rc_ge_str
    | k + 2, h1, _ => omega
  rw [e1, e2, show min 2 2 = 2 from rfl, show decide (2 ≥ 2) = true from rfl, lexIS] at R
  have R2 : wpAny (model X.prog X.w) X.A (compareOp .GtE (.ref a) (.ref b)) (EP X pins σ Q) X.xe s := R X.prog X.w X.xe (EP X pins σ Q) ⟨.bl _, H, I, rfl, q⟩
  exact R2
end
end LX
set_option maxHeartbeats 4000000
namespace LX
open PySem PySem.Spec PyProof.Rows L2 C8 SX
theorem nodup_le {α : Type} [DecidableEq α] : ∀ {l m : List α}, l.Nodup → (∀ x ∈ l, x ∈ m) → l.length ≤ m.length
  | [], m, _, _ => Nat.zero_le _
  | a :: l, m, nd, h => by
    rw [List.nodup_cons] at nd
    have ha := h a List.mem_cons_self
    have ih := nodup_le (l := l) (m := m.erase a) nd.2 fun x hx => by
      have hne : x ≠ a := fun e => nd.1 (e ▸ hx)
      exact (List.mem_erase_of_ne hne).mpr (h x (List.mem_cons_of_mem _ hx))
    rw [List.length_erase_of_mem ha] at ih
    have := List.length_pos_of_mem ha
    rw [List.length_cons]
    omega
section
variable {w : World} {a : Addr} {ks ks' : List Str}
theorem SetT.of_mem {h : Heap} (R : SetT w h a ks) (e : ∀ k, k ∈ ks ↔ k ∈ ks') : SetT w h a ks' := by
  obtain ⟨o, es, ep, t, ho, hex, hd, g, nd, hm, hk, r⟩ := R
  refine ⟨o, es, ep, t, ho, hex, hd, g, nd, fun k => (hm k).trans (e k), ?_, r⟩
  have := nodup_le nd fun x hx => (e x).mp ((hm x).mp hx)
  rw [List.length_map, Array.length_toList] at this
  exact this
end
section
variable {prog : Program} {w : World} {A : Around} {R : Result → Shared → Prop} {I S : Addr} {fp wr : List Addr} {G : Array GenState → Array GenState → Prop} {n : Nat} {P : Nat → Value → Prop} {St : Nat → Shared → Prop}
theorem setT_loopL (W : WalksS prog w A.in1 I fp wr G n P St) (off : S ∉ fp) {xs B : List Str} (hl : xs.length = n) (hB : ∀ x ∈ xs, x ∈ B) (room : B.length + 1 < scanBound) (val : ∀ i v, P i v → ∃ x t, xs[i]? = some x ∧ v = .str x t) :
    ∀ (k i : Nat) (s : Shared) (ks : List Str), i + k = n → St i s → SetT w s.heap S ks → ks.Nodup → (∀ z, z ∈ ks ↔ z ∈ xs.take i) → (∀ s' ks', Moved (S :: wr) G s s' → SetT w s'.heap S ks' → ks'.Nodup → (∀ z, z ∈ ks' ↔ z ∈ xs) → R (.ok (.ret .none)) s') →
      codeAny (model prog w) A (.builtin "set.update.loop" ⟨[.ref S, .ref I], []⟩) R s
  | 0, i, s, ks, hk, hst, he, hnd, hz, hR => by
    obtain rfl : i = n := hk
    refine codeAny_builtin PyProof.Rows.F.entry_set_update_loop ?_
    rw [Around.under_plainId PyProof.Rows.F.plain_set_update_loop _]
    refine wpAny_bind (W.done s _ _ hst fun s' hm => wpAny_pure (hR s' ks (hm.mono fun b hb => List.mem_cons_of_mem _ hb) (he.stay fun o e => hm.heap S o (fun h => off (W.sub _ h)) e) hnd (fun z => ?_)))
    rw [hz z, List.take_of_length_le (by omega)]
  | k + 1, i, s, ks, hk, hst, he, hnd, hz, hR => by
    refine codeAny_builtin PyProof.Rows.F.entry_set_update_loop ?_
    rw [Around.under_plainId PyProof.Rows.F.plain_set_update_loop _]
    refine wpAny_bind (W.item i s _ _ (by omega) hst fun v s' hP hst' hm => ?_)
    obtain ⟨x, u, hx, rfl⟩ := val i v hP
    have he2 : SetT w s'.heap S ks := he.stay fun o e => hm.heap S o (fun h => off (W.sub _ h)) e
    have hle := nodup_le hnd fun z h => hB z (List.mem_of_mem_take ((hz z).mp h))
    show wpAny _ A.in1 (holding [Value.str x u] (setAdd S (.str x u)) >>= _) _ _ s'
    refine wpAny_bind (wpAny_holding ?_)
    unfold setAdd
    refine wpAny_holding (wpAny_bind ((PySem.strKind prog w).pyHash (k := x) (is_strT _ _) ?_))
    refine setT_add (s := { s' with toks := s'.toks + 1 }) he2 (by omega) fun b h2 sb he3 => ?_
    have hmem : ∀ z, z ∈ x :: ks ↔ z ∈ xs.take (i + 1) := fun z => by
      rw [List.mem_cons, hz z, List.take_succ, hx, List.mem_append]
      show z = _ ∨ z ∈ xs.take i ↔ z ∈ xs.take i ∨ z ∈ [x]
      rw [List.mem_singleton]
      exact Or.comm
    obtain ⟨ks2, he4, hnd2, hz2⟩ : ∃ ks2, SetT w h2 S ks2 ∧ ks2.Nodup ∧ ∀ z, z ∈ ks2 ↔ z ∈ xs.take (i + 1) := by
      by_cases q : x ∈ ks
      · have e : ∀ z, z ∈ x :: ks ↔ z ∈ ks := fun z => by rw [List.mem_cons]; exact ⟨fun h => h.elim (fun h => h ▸ q) id, .inr⟩
        exact ⟨ks, he3.of_mem e, hnd, fun z => (e z).symm.trans (hmem z)⟩
      · exact ⟨x :: ks, he3, List.nodup_cons.mpr ⟨q, hnd⟩, hmem⟩
    refine wpAny_pure ⟨plainId_quiet PyProof.Rows.F.plain_set_update_loop _, setT_loopL W off hl hB room val k (i + 1) _ ks2 (by omega) (W.frame _ s' _ _ hst' (Nat.le_succ _) fun b hb o e => ?_) he4 hnd2 hz2 fun s2 ks3 hm2 he5 hn3 hz3 => ?_⟩
    · rw [sb.2 b (fun h => off (h ▸ hb))]; exact e
    · refine hR s2 ks3 (Moved.trans W.gtrans ((hm.mono fun b hb => List.mem_cons_of_mem _ hb).then_heap (Nat.le_succ _) fun b o hb e => ?_) hm2) he5 hn3 hz3
      rw [sb.2 b (fun h => hb (by rw [h]; exact List.mem_cons_self))]; exact e
end
section
variable {prog : Program} {w : World} {A : Around} {E : Value → Shared → Prop} {s : Shared}
theorem set_of_listT {l : Addr} {items : Array Value} {xs B : List Str} {Q : Value → Shared → Prop} (hh : A.handled = none) (hl : s.heap.IsList l items) (hi : PyProof.Rows.StrsAre items.toList xs) (hB : ∀ x ∈ xs, x ∈ B) (room : B.length + 1 < scanBound)
    (h : ∀ (h' : Heap) (tk : Nat) ks, SetT w h' s.heap.objs.size ks → ks.Nodup → (∀ z, z ∈ ks ↔ z ∈ xs) → (∀ b o, s.heap.get? b = some o → h'.get? b = some o) → Q (.ref s.heap.objs.size) { s with heap := h', toks := tk }) :
    wpAny (model prog w) A (call (.type "set") [.ref l]) Q E s := by
  obtain ⟨c, tl, hmro⟩ := PySem.F.called_set.mro
  have hmade := PySem.F.called_set.made
  have hsub := PySem.F.called_set.sub
  refine wpAny_call (codeAny_of_tree ?_)
  refine wpAny_pure ⟨Code.quiet_builtin _ (by decide +kernel), codeAny_builtin PySem.F.entry_type_call ?_⟩
  rw [Around.under_plain (weight_type_call_type "set" [.ref l] []) rfl]
  have nt := PySem.F.called_set.notType
  have cc := PySem.F.called_set.canCreate
  have ct := PySem.F.typeCall_set_1 (.ref l)
  repeat (any_goals (first | assumption | wp_step))
  refine codeAny_mono (code_set_led1 (.ref l) (E := E) (Q₁ := fun obj s1 => obj = .ref s.heap.objs.size ∧ s1 = { s with heap := s.heap.push { cls := .type "set", dict := none, data := .set #[] 0 (.fresh 0 0 (!w.params.followText "set-order")) } }) ⟨rfl, rfl⟩) fun r s1 hr => ?_
  match r, hr with
  | .ok (.ret obj), hr =>
    obtain ⟨rfl, rfl⟩ := hr
    have f0 : SetT w _ s.heap.objs.size [] := setT_fresh (w := w) (h := s.heap)
    generalize (!w.params.followText "set-order") = led at f0 ⊢
    have hS : (s.heap.push (setO led)).get? s.heap.objs.size = some (setO led) := Heap.get?_push_size _ rfl
    have hTy : Shared.TypeIs { s with heap := s.heap.push (setO led) } (.ref s.heap.objs.size) "set" := ⟨_, hS, rfl⟩
    have li := PySem.F.called_set.init.lookup
    have bi := PySem.F.called_set.init.bind (.ref s.heap.objs.size)
    repeat (any_goals (first | assumption | wp_step))
    refine codeAny_mono (codeAny_call_builtin (R := wants (fun r s2 => r = .none ∧ ∃ h' tk ks, s2 = { s with heap := h', toks := tk } ∧ SetT w h' s.heap.objs.size ks ∧ ks.Nodup ∧ (∀ z, z ∈ ks ↔ z ∈ xs) ∧ (∀ b o, s.heap.get? b = some o → h'.get? b = some o)) E)
      PySem.F.called_set.init.plain PySem.F.entry_set_init (check_set_init_1 hTy ?_)) fun r2 s2 hr2 => ?_
    · obtain ⟨⟨oc, od, odt, osl⟩, hol, hcl, nl, hdl⟩ := hl
      dsimp only at hcl hdl
      subst hcl hdl
      have hol' : (s.heap.push (setO led)).get? l = some { cls := .type "list", dict := od, data := .seq items nl, slots := osl } := Heap.get?_push_of_some _ hol
      have ss := PySem.F.sub_list_set
      have sf := PySem.F.sub_list_frozenset
      have ne : (Value.type "list" == Value.type "dict") = false := by decide
      have hl1 : (s.heap.push (setO led)).IsList l items := ⟨_, hol', rfl, nl, rfl⟩
      unfold Builtin.«set.__init__» noKeywords Builtin.Frozenset.updateFrom
      generalize hPI : pyIter = PI
      wp_walk
      subst hPI
      refine wpAny_pyIter_list hl1 ?_
      refine wpAny_bind (wpAny_runValue ?_)
      have hlS : l < s.heap.objs.size := Heap.lt_size hol
      have hz : (s.heap.push (setO led)).objs.size = s.heap.objs.size + 1 := Heap.size_push ..
      have neI : l ≠ (s.heap.push (setO led)).objs.size := by rw [hz]; exact Nat.ne_of_lt (Nat.lt_succ_of_lt hlS)
      have off : s.heap.objs.size ∉ [(s.heap.push (setO led)).objs.size, l] := by
        rw [hz]; simp only [List.mem_cons, List.not_mem_nil, or_false, not_or]
        exact ⟨Nat.ne_of_lt (Nat.lt_succ_self _), Nat.ne_of_gt hlS⟩
      have hsz : xs.length = items.size := by rw [← StrsAre.len_eq hi, Array.length_toList]
      refine setT_loopL (xs := xs) (B := B) ((Walks.list (A := A.in1.in1.in1) (by simp [hh]) _ l neI items).toS) off hsz hB room (fun i v hv => ?_) items.size 0 _ [] (Nat.zero_add _) ⟨⟨_, Heap.get?_push_size _ rfl, rfl, rfl⟩, hl1.push _⟩ (f0.stay fun o' e => Heap.get?_push_of_some _ e) List.nodup_nil (fun z => by simp) fun s' ks' hm hS' hn' hz' => ?_
      · obtain ⟨t, e⟩ := SS.strs_at hi i v (by rw [Array.getElem?_toList]; exact hv)
        have hlt : i < xs.length := by rw [hsz]; exact (Array.getElem?_eq_some_iff.mp hv).1
        exact ⟨xs[i], t, List.getElem?_eq_getElem hlt, by rw [e, List.getD_eq_getElem?_getD, List.getElem?_eq_getElem hlt]; rfl⟩
      · obtain ⟨h', g', d', tk', os'⟩ := s'
        obtain rfl : g' = s.gens := hm.gens
        obtain rfl : d' = s.drawn := hm.drawn
        obtain rfl : os' = s.os := hm.os
        refine wpAny_pure (wpAny_pure ⟨rfl, h', tk', ks', rfl, hS', hn', hz', fun b o e => ?_⟩)
        have hb : b < s.heap.objs.size := Heap.lt_size e
        refine hm.heap b o (fun hmem => ?_) (Heap.get?_push_of_some _ (Heap.get?_push_of_some _ e))
        have e' : b = s.heap.objs.size ∨ b = (s.heap.push (setO led)).objs.size := by simpa using hmem
        rcases e' with e' | e'
        · exact Nat.ne_of_lt hb e'
        · rw [hz] at e'; exact Nat.ne_of_lt (Nat.lt_succ_of_lt hb) e'
    · match r2, hr2 with
      | .ok (.ret r), hr2 =>
        obtain ⟨rfl, h', tk, ks, rfl, hS', hn', hz', hk'⟩ := hr2
        repeat (any_goals (first | assumption | wp_step))
        exact h _ _ _ hS' hn' hz' hk'
      | .error e, hr2 => exact hr2
  | .error e, hr => exact hr
end
theorem rising_pw : ∀ (ds : List (List Nat)) (d : List Nat), risingS (S d) (ds.map S) = true → (∀ e ∈ ds, ¬ e < d) ∧ ds.Pairwise fun a b => ¬ b < a
  | [], _, _ => ⟨(fun _ h => nomatch h), .nil⟩
  | c :: ds, d, h => by
    have h : (!ltCps (S c).cps.toList (S d).cps.toList && risingS (S c) (ds.map S)) = true := h
    rw [Bool.and_eq_true] at h
    obtain ⟨i1, i2⟩ := rising_pw ds c h.2
    have hcd : ¬ c < d := by
      have h1 := h.1
      rw [ltCps_eq] at h1
      have h1 : (!decide (c < d)) = true := by simpa [S] using h1
      simpa using h1
    refine ⟨fun e he => ?_, List.pairwise_cons.mpr ⟨i1, i2⟩⟩
    rcases List.mem_cons.mp he with rfl | he
    · exact hcd
    · exact List.not_lt.mpr (List.le_trans (List.not_lt.mp hcd) (List.not_lt.mp (i1 e he)))
theorem sorted_pw {ds : List (List Nat)} (h : sortedS (ds.map S) = true) : ds.Pairwise fun a b => ¬ b < a := by
  cases ds with
  | nil => exact .nil
  | cons d ds =>
    obtain ⟨i1, i2⟩ := rising_pw ds d h
    exact List.pairwise_cons.mpr ⟨i1, i2⟩
theorem sorted_rise {ds : List (List Nat)} (h : sortedS (ds.map S) = true) (n : ds.Nodup) : ds.Pairwise (· < ·) :=
  ((sorted_pw h).and n).imp fun ⟨a, b⟩ => by
    rcases List.le_iff_lt_or_eq.mp (List.not_lt.mp a) with h | h
    · exact h
    · exact absurd h b
theorem txts_of : ∀ {ss : List Str} {xs : List (List Nat)}, (∀ k ∈ ss, ∃ x ∈ xs, k = S x) → ∃ ds : List (List Nat), ss = ds.map S
  | [], _, _ => ⟨[], rfl⟩
  | k :: ss, xs, h => by
    obtain ⟨c, _, rfl⟩ := h k List.mem_cons_self
    obtain ⟨ds, rfl⟩ := txts_of (ss := ss) (xs := xs) fun x hx => h x (List.mem_cons_of_mem _ hx)
    exact ⟨c :: ds, rfl⟩
theorem S_inj' {a b : List Nat} (h : S a = S b) : a = b := by simpa [S] using h
theorem map_S_nodup {ds : List (List Nat)} (h : (ds.map S).Nodup) : ds.Nodup := List.Pairwise.of_map S (fun a b hne e => hne (by rw [e])) h
theorem mem_map_S {x : List Nat} {xs : List (List Nat)} : S x ∈ xs.map S ↔ x ∈ xs := by
  rw [List.mem_map]
  exact ⟨fun ⟨y, hy, e⟩ => S_inj' e ▸ hy, fun h => ⟨x, h, rfl⟩⟩
section
variable {X : Cx}
theorem sortXL_run {pins : List (Addr × Obj)} {σ : L2.St} {H1 : Hp} {Q : VK} {s1 : Shared} {a : Addr} {ks : List Str} {xs : List (List Nat)} (hc : X.calm = true) (I2 : Inv X pins σ H1 s1) (hS : SetT X.w s1.heap a ks) (hz : ∀ z, z ∈ ks ↔ z ∈ xs.map S) (hn : ks.length < 60)
    (q1 : ∀ (p : Addr) (ds : List (List Nat)), H1 p = none → ds.Pairwise (· < ·) → (∀ c, c ∈ ds ↔ c ∈ xs) → Q (.ref p) (upd H1 p (.lst (txs ds)))) : wpAny (model X.prog X.w) X.A (call (.builtin "sorted") [.ref a]) (EP X pins σ Q) X.xe s1 := by
  refine sorted_setX hS (I2.ok.hd hc) (by omega) fun s' p out c ss k2 g2 o2 hp ho hS2 srt nd mem hle => ?_
  have hmem : ∀ k, k ∈ ss ↔ k ∈ xs.map S := fun k => (mem k).trans (hz k)
  obtain ⟨ds, rfl⟩ := txts_of (xs := xs) fun k hk => let ⟨x, hx, e⟩ := List.mem_map.mp ((hmem k).mp hk); ⟨x, hx, e.symm⟩
  have hn2 : H1 p = none := I2.hok.fresh hp
  have eL : ((ds.map S).map V.str) = txs ds := by unfold txs; rw [List.map_map]; rfl
  have hlen : ((ds.map S).map V.str).length ≤ sizeLine := by
    rw [List.length_map, sizeLine_eq]
    omega
  have J : Inv X pins σ (upd H1 p (.lst ((ds.map S).map V.str))) { s1 with heap := s'.heap, gens := s'.gens, drawn := s'.drawn, toks := s'.toks } :=
    I2.call (ch := []) (Un.laid k2 hp hn2) (I2.hok.laid k2 hp ⟨hlen, out.toList, c, vals_of_strs hS2, ho⟩) (by rw [g2]; exact I2.bare) (fun _ z => nomatch z)
  have e : s' = { s1 with heap := s'.heap, gens := s'.gens, drawn := s'.drawn, toks := s'.toks } := by
    cases s'; cases s1; cases o2; rfl
  rw [e]
  rw [eL] at J
  exact ⟨.ref p, _, J, rfl, q1 p ds hn2 (sorted_rise srt (map_S_nodup nd)) fun c => by rw [← mem_map_S, hmem, mem_map_S]⟩
def tSortSetL (K : PySem.W.Frag) (ta : TE) : TE := fun σ H Q => ta σ H fun x H1 => ∃ (l : Addr) (xs B : List (List Nat)), x = .ref l ∧ SqL K H1 l (txs xs) ∧ (∀ x ∈ xs, x ∈ B) ∧ B.length < 60 ∧ ∀ (p : Addr) (ds : List (List Nat)), H1 p = none → ds.Pairwise (· < ·) → (∀ c, c ∈ ds ↔ c ∈ xs) → Q (.ref p) (upd H1 p (.lst (txs ds)))
theorem pe_sortSetL {a : Expr} {ta : TE} {p p2 q pos : Pos} (hc : X.calm = true) (hg : Gl X "sorted") (hm : X.mg "sorted" = none) (hg2 : Gl X "set") (hm2 : X.mg "set" = none) (ha : PE X a ta)
    (na : starEach [a] X.env = (false, eval a X.env) :: starEach [] X.env := by rfl) : PE X (.Call (.Name "sorted" p) [.Call (.Name "set" p2) [a] [] q] [] pos) (tSortSetL X.K ta) := by
  refine ⟨fun pins s σ H Q I h => ?_⟩
  refine Call_ (ld_blt I hg hm PyProof.Rows.boot_sorted (PyProof.Rows.callWith_builtin1 (PyProof.Rows.args_cons ?_ rfl) rfl rfl))
  refine Call_ (ld_blt I hg2 hm2 PyProof.Rows.boot_set (PyProof.Rows.callWith_type1 (PyProof.Rows.args_cons (thn (ha.run pins s σ H _ I h) fun v s1 ⟨x, H1, I1, r1, q1⟩ => PyProof.Rows.args_nil ?_) na) na rfl))
  obtain ⟨l, xs, B, rfl, hq, hB, h60, q1⟩ := q1
  cases r1
  have hq' : SqL X.K H1 l ((xs.map S).map V.str) := by
    have : ((xs.map S).map V.str) = txs xs := by unfold txs; rw [List.map_map]; rfl
    rw [this]; exact hq
  obtain ⟨its, r, pl, hz⟩ := I1.list hq'
  refine set_of_listT (xs := xs.map S) (B := B.map S) (I1.ok.hd hc) pl.isList (by simpa using r.strs) (fun x hx => by obtain ⟨y, hy, rfl⟩ := List.mem_map.mp hx; exact List.mem_map.mpr ⟨y, hB y hy, rfl⟩) (by rw [List.length_map]; unfold scanBound; omega) fun h' u ks hS hnd hzz hk => ?_
  refine PyProof.Rows.args_nil ?_
  have hkl := nodup_le hnd fun z h => by
    obtain ⟨y, hy, rfl⟩ := List.mem_map.mp ((hzz z).mp h)
    exact List.mem_map.mpr ⟨y, hB y hy, rfl⟩
  rw [List.length_map] at hkl
  exact sortXL_run (s1 := { s1 with heap := h', toks := u }) hc (I1.kept hk) hS hzz (Nat.lt_of_le_of_lt hkl h60) q1
end
end LX
set_option maxHeartbeats 4000000
namespace LX
open PySem PySem.Spec PyProof.Rows L2 C8 SX
def OrdL (a b : List Nat) : Prop := a.length < b.length ∨ (a.length = b.length ∧ a < b)
instance (a b : List Nat) : Decidable (OrdL a b) := by unfold OrdL; infer_instance
theorem OrdL.irr (a : List Nat) : ¬ OrdL a a := fun h => h.elim (Nat.lt_irrefl _) fun h => List.lt_irrefl a h.2
theorem OrdL.trans {a b c : List Nat} (h : OrdL a b) (g : OrdL b c) : OrdL a c := by
  rcases h with h | ⟨h1, h2⟩ <;> rcases g with g | ⟨g1, g2⟩
  · exact .inl (by omega)
  · exact .inl (by omega)
  · exact .inl (by omega)
  · exact .inr ⟨by omega, List.lt_trans h2 g2⟩
def spOrd : Sp := fun vs H Q _ => ∃ l : List Nat, vs = [.str (S l)] ∧ l.length ≤ 1000 ∧ ∀ (t : Addr) (H' : Hp), Same H H' → H' t = some (.tup [.int (l.length : Nat), .str (S l)]) → Q (.ref t) H'
theorem lexLt (i j : Int) (r t : Str) : Ob.lexAt (fun k => if k = 0 then (i == j) else (r == t)) (fun k => if k = 0 then decide (i < j) else decide (r.cps.toList < t.cps.toList)) false 0 2 = (if i = j then decide (r.cps.toList < t.cps.toList) else decide (i < j)) := by
  rw [Ob.lexAt_succ, Ob.lexAt_succ, Ob.lexAt_zero]
  simp only [Nat.zero_add, if_true, Nat.one_ne_zero, if_false]
  by_cases h : i = j
  · subst h
    rw [if_pos (beq_self_eq_true _), if_pos rfl]
    by_cases h2 : r = t
    · subst h2
      rw [if_pos (beq_self_eq_true _), decide_eq_false (List.lt_irrefl _)]
    · rw [if_neg (by simpa using h2)]
  · rw [if_neg (by simpa using h), if_neg h]
section
variable {X : Cx} {pins : List (Addr × Obj)} {σ : L2.St} {H : Hp} {s : Shared}
theorem lt_pairs {A : Around} {a b : Addr} {x y : List Nat} {E : Value → Shared → Prop} {Q : Value → Shared → Prop} (I : Inv X pins σ H s) (hu : A.units < cLine) (ha : H a = some (.tup [.int (x.length : Nat), .str (S x)])) (hb : H b = some (.tup [.int (y.length : Nat), .str (S y)]))
    (q : Q (.bool (decide (OrdL x y))) s) : wpAny (model X.prog X.w) A (richCompare .Lt (.ref a) (.ref b)) Q E s := by
  obtain ⟨its, r1, p1, _⟩ := I.tuple (SqT.of (K := X.K) ha)
  obtain ⟨its2, r2, p2, _⟩ := I.tuple (SqT.of (K := X.K) hb)
  obtain ⟨t1, t2, rfl⟩ : ∃ t1 t2, its = [Value.int (x.length : Nat) t1, .str (S x) t2] := by
    cases r1 with | cons x1 r1 => cases r1 with | cons x2 r1 => cases r1 with | nil => exact let ⟨t1, e1⟩ := x1; let ⟨t2, e2⟩ := x2; ⟨t1, t2, by rw [e1, e2]⟩
  obtain ⟨t3, t4, rfl⟩ : ∃ t1 t2, its2 = [Value.int (y.length : Nat) t1, .str (S y) t2] := by
    cases r2 with | cons x1 r1 => cases r1 with | cons x2 r1 => cases r1 with | nil => exact let ⟨t1, e1⟩ := x1; let ⟨t2, e2⟩ := x2; ⟨t1, t2, by rw [e1, e2]⟩
  have e1 : ([Value.int (x.length : Nat) t1, .str (S x) t2] : List Value).toArray.size = 2 := rfl
  have e2 : ([Value.int (y.length : Nat) t3, .str (S y) t4] : List Value).toArray.size = 2 := rfl
  have R := Ob.RcOp.tuples_lt (A := A) (s := s) (e := fun k => if k = 0 then (((x.length : Nat) : Int) == ((y.length : Nat) : Int)) else (S x == S y)) (r := fun k => if k = 0 then decide (((x.length : Nat) : Int) < ((y.length : Nat) : Int)) else decide ((S x).cps.toList < (S y).cps.toList)) p1 p2 hu
    (fun k h1 h2 => by
      rw [e1] at h1
      match k, h1, h2 with
      | 0, _, _ => exact SeqAt.EqAt.int_int _ _ _ _
      | 1, _, _ => exact SeqAt.EqAt.str_str _ _ _ _
      | k + 2, h1, _ => omega)
    (fun k h1 h2 _ => by
      rw [e1] at h1
      match k, h1, h2 with
      | 0, _, _ => exact Ob.RcOp.lt_int _ _ _ _
      | 1, _, _ => exact fun _ _ _ _ h => PySem.P.lt_str h
      | k + 2, h1, _ => omega)
  rw [e1, e2, show min 2 2 = 2 from rfl, show decide (2 < 2) = false from rfl, lexLt] at R
  refine R X.prog X.w E Q ?_
  have e : (if ((x.length : Nat) : Int) = ((y.length : Nat) : Int) then decide ((S x).cps.toList < (S y).cps.toList) else decide (((x.length : Nat) : Int) < ((y.length : Nat) : Int))) = decide (OrdL x y) := by
    have ex : (S x).cps.toList = x := by simp [S]
    have ey : (S y).cps.toList = y := by simp [S]
    rw [ex, ey]
    unfold OrdL
    by_cases h : x.length = y.length
    · rw [if_pos (by omega)]
      exact decide_eq_decide.mpr ⟨fun q => .inr ⟨h, q⟩, fun q => q.elim (fun q => absurd q (by omega)) (·.2)⟩
    · rw [if_neg (by omega)]
      exact decide_eq_decide.mpr ⟨fun q => .inl (by omega), fun q => q.elim (fun q => by omega) fun q => absurd q.1 h⟩
  rw [e]; exact q
structure OwnA (X : Cx) (pins : List (Addr × Obj)) (a : Addr) : Prop where
  loc : a ≠ X.env.locals
  hi : a ∈ X.ex ∨ X.s_0.heap.objs.size ≤ a
  cell : ∀ x c, X.env.cells.lookup x = some c → c ≠ a
  pin : ∀ p ∈ X.pn ++ pins, p.1 ≠ a
  fs : a ∉ X.fs
theorem OwnA.new (I : Inv X pins σ H s) {a : Addr} (h : s.heap.objs.size ≤ a) : OwnA X pins a :=
  ⟨Nat.ne_of_gt (Nat.lt_of_lt_of_le I.lt h), .inr (Nat.le_trans I.sz h), fun x c e z => by
    obtain ⟨v, o, ho, _⟩ := I.cell x c e
    exact absurd (Heap.lt_size ho) (by rw [z]; exact Nat.not_lt.mpr h), fun p hp z => absurd (z ▸ Heap.lt_size (I.pin p hp).1) (Nat.not_lt.mpr h), I.nofs h⟩
theorem OwnA.turn {a : Addr} (O : OwnA X pins a) (I : Inv X pins σ H s) (hn : H a = none) {h' : Heap} {tk : Nat} (k : ∀ b o, b ≠ a → s.heap.get? b = some o → h'.get? b = some o) : Inv X pins σ H { s with heap := h', toks := tk } :=
  I.turned k hn O.loc O.hi O.cell O.pin
abbrev scO (v k : Value) (c : Nat) : Obj := { cls := .type "list", dict := none, data := .seq #[v, k] c, slots := #[] }
variable {kf : Nat} {q : Addr} {fd : FuncData} {ps : List Str} {It Sc : Addr}
theorem key_call {o1 o2 : Obj} {x : List Nat} {tk : Tok} {E : Value → Shared → Prop} {Q : Value → Shared → Prop} (F : FnOk X.prog X.w X.K X.mg X.base C8.CX0 kf q fd ps spOrd) (hr : Room (kf + 1) X.A) (hb : Binds X.K fd ps []) (oI : OwnA X pins It) (oS : OwnA X pins Sc)
    (I : Inv X pins σ H s) (nI : H It = none) (nS : H Sc = none) (h1 : s.heap.get? It = some o1) (h2 : s.heap.get? Sc = some o2) (d1 : ∀ v, o1.data ≠ .cell v) (d2 : ∀ v, o2.data ≠ .cell v) (hx : x.length ≤ 1000)
    (k : ∀ (t : Addr) (H' : Hp) (s' : Shared), Inv X pins σ H' s' → Same H H' → H' t = some (.tup [.int (x.length : Nat), .str (S x)]) → s'.heap.get? It = some o1 → s'.heap.get? Sc = some o2 → H' It = none → H' Sc = none → Q (.ref t) s') :
    wpAny (model X.prog X.w) X.A.in1 (call (.ref q) [.str (S x) tk]) Q E s := by
  have I2 : Inv X ((It, o1) :: (Sc, o2) :: pins) σ H s := I.pins_of fun p hp => by
    rcases List.mem_cons.mp hp with rfl | hp
    · exact ⟨h1, nI, oI.loc, oI.fs, d1⟩
    rcases List.mem_cons.mp hp with rfl | hp
    · exact ⟨h2, nS, oS.loc, oS.fs, d2⟩
    · exact I.pin p (List.mem_append_right _ hp)
  have want : spOrd [.str (S x)] H (fun y H' => ∃ t, y = .ref t ∧ Same H H' ∧ H' t = some (.tup [.int (x.length : Nat), .str (S x)])) C8.E0 := ⟨x, rfl, hx, fun t H' sm ht => ⟨t, rfl, sm, ht⟩⟩
  have bs := hb s [Value.str (S x) tk] I2.kIn (by rw [List.append_nil]; exact F.len _ _ _ _ want)
  rw [List.append_nil] at bs
  refine wpAny_call (codeAny_mono (F.run X.A.in1 X.stack s H ⟨[.str (S x) tk], []⟩ _ [.str (S x)] _ C8.E0 hr.in1 I2.env0.in1 bs (.cons ⟨tk, rfl⟩ .nil) want) fun r s' got => ?_)
  match r, got with
  | .ok (.ret u), got =>
    obtain ⟨y, H', I3, rv, t, rfl, sm, ht⟩ := I2.after got
    cases rv
    obtain ⟨a1, a2, _⟩ := I3.pin (It, o1) (List.mem_append_right _ List.mem_cons_self)
    obtain ⟨b1, b2, _⟩ := I3.pin (Sc, o2) (List.mem_append_right _ (List.mem_cons_of_mem _ List.mem_cons_self))
    exact k t H' s' (I3.pins_of fun p hp => I3.pin p (List.mem_append_right _ (List.mem_cons_of_mem _ (List.mem_cons_of_mem _ hp)))) sm ht a1 b1 a2 b2
theorem min_turns {H1 : Hp} {l : Addr} {xs : List (List Nat)} {kw : List (Str × Value)} {R : Result → Shared → Prop} (hc : X.calm = true) (Fk : FnOk X.prog X.w X.K X.mg X.base C8.CX0 kf q fd ps spOrd) (hr : Room (kf + 1) X.A) (hb : Binds X.K fd ps []) (oI : OwnA X pins It) (oS : OwnA X pins Sc)
    (hIS : It ≠ Sc) (hlI : l ≠ It) (hsq : SqL X.K H1 l (txs xs)) (hxs : ∀ x ∈ xs, x.length ≤ 1000)
    (hR : ∀ (m : List Nat) (tk : Tok) (H' : Hp) (s' : Shared), Inv X pins σ H' s' → Same H1 H' → m ∈ xs → (∀ y ∈ xs, ¬ OrdL y m) → R (.ok (.ret (.str (S m) tk))) s') :
    ∀ (k j b : Nat) (s : Shared) (H' : Hp) (t : Addr) (tk : Tok) (c : Nat), j + 1 + k = xs.length → Inv X pins σ H' s → Same H1 H' → H' It = none → H' Sc = none → s.heap.IsListIter It l (j + 1) → s.heap.get? Sc = some (scO (.str (S (xs.getD b [])) tk) (.ref t) c) →
      H' t = some (.tup [.int ((xs.getD b []).length : Nat), .str (S (xs.getD b []))]) → b ≤ j → (∀ i, i ≤ j → ¬ OrdL (xs.getD i []) (xs.getD b [])) → codeAny (model X.prog X.w) X.A (.builtin "min.loop" ⟨[.ref It, .ref q, .ref Sc], kw⟩) R s := by
  have hname : (toString "min" ++ toString ".loop" : String) = "min.loop" := by decide
  have gd : ∀ i, i < xs.length → xs[i]? = some (xs.getD i []) := fun i hi => by rw [List.getD_eq_getElem?_getD, List.getElem?_eq_getElem hi]; rfl
  intro k
  induction k with
  | zero =>
    intro j b s H' t tk c hk I sm nI nS hit hS ht hbj best
    obtain ⟨its, rv, pl, _⟩ := I.list (sm.seq hsq)
    have hn : its.toArray.size = xs.length := by rw [List.size_toArray, ← rv.length, txs_len]
    have W := Walks.list (prog := X.prog) (w := X.w) (A := X.A.in1) (by simp [I.ok.hd hc]) It l hlI its.toArray
    have hb2 : xs.getD b [] ∈ xs := List.mem_of_getElem? (gd b (by omega))
    refine codeAny_builtin PySem.F.entry_min_loop (by
      rw [Around.under_plainId PySem.F.plain_min_loop _]
      show wpAny _ X.A.in1 (seqItems? (.ref Sc) >>= _) _ _ s
      refine wpAny_bind (wpAny_seqItems hS rfl ?_)
      show wpAny _ X.A.in1 (tryCatch (pyNext (.ref It)) _ >>= _) _ _ s
      refine wpAny_bind (wpAny_tryCatch (W.done s _ _ (by rw [hn, ← hk, Nat.add_zero]; exact ⟨hit, pl.isList⟩) fun h' tk' hm => ?_))
      have I2 : Inv X pins σ H' { s with heap := h', toks := tk' } := oI.turn I nI fun b o n e => hm b o (by simpa using n) e
      have hS2 : h'.get? Sc = some (scO (.str (S (xs.getD b [])) tk) (.ref t) c) := hm Sc _ (by simpa using hIS.symm) hS
      show wpAny _ X.A.in1 (updateSeq Sc (fun _ => #[]) >>= _) _ _ _
      refine wpAny_bind (wpAny_updateSeq hS2 rfl (wpAny_bind (wpAny_letGo (wpAny_pure ?_))))
      exact hR _ tk H' _ (oS.turn (tk := tk') I2 nS fun b o n e => (Heap.get?_update_other _ _ n.symm).trans e) sm hb2 fun y hy => by
        obtain ⟨i, hi⟩ := List.getElem?_of_mem hy
        have hil := (List.getElem?_eq_some_iff.mp hi).1
        have := best i (by omega)
        rw [List.getD_eq_getElem?_getD, hi] at this
        exact this)
  | succ k ih =>
    intro j b s H' t tk c hk I sm nI nS hit hS ht hbj best
    obtain ⟨its, rv, pl, _⟩ := I.list (sm.seq hsq)
    have hn : its.toArray.size = xs.length := by rw [List.size_toArray, ← rv.length, txs_len]
    have W := Walks.list (prog := X.prog) (w := X.w) (A := X.A.in1) (by simp [I.ok.hd hc]) It l hlI its.toArray
    have hj1 := gd (j + 1) (by omega)
    have hxj := hxs _ (List.mem_of_getElem? hj1)
    refine codeAny_builtin PySem.F.entry_min_loop (by
      rw [Around.under_plainId PySem.F.plain_min_loop _]
      show wpAny _ X.A.in1 (seqItems? (.ref Sc) >>= _) _ _ s
      refine wpAny_bind (wpAny_seqItems hS rfl ?_)
      show wpAny _ X.A.in1 (tryCatch (pyNext (.ref It)) _ >>= _) _ _ s
      refine wpAny_bind (wpAny_tryCatch (W.item (j + 1) s _ _ (by omega) ⟨hit, pl.isList⟩ fun v h' tk' hP hst hm => ?_))
      have I2 : Inv X pins σ H' { s with heap := h', toks := tk' } := oI.turn I nI fun b o n e => hm b o (by simpa using n) e
      have hS2 : h'.get? Sc = some (scO (.str (S (xs.getD b [])) tk) (.ref t) c) := hm Sc _ (by simpa using hIS.symm) hS
      obtain ⟨tv, rfl⟩ : ∃ tv, v = .str (S (xs.getD (j + 1) [])) tv := by
        have e1 : (txs xs)[j + 1]? = some (.str (S (xs.getD (j + 1) []))) := by unfold txs; rw [List.getElem?_map, hj1]; rfl
        obtain ⟨u, eu, ru⟩ := rv.get e1
        have hP' : its[j + 1]? = some v := by simpa using hP
        rw [hP'] at eu
        obtain ⟨tv, rfl⟩ := ru
        exact ⟨tv, Option.some.inj eu⟩
      obtain ⟨oi, hoi, ci, di⟩ := hst.1
      show wpAny _ X.A.in1 (tryCatch (holding [Value.str (S (xs.getD (j + 1) [])) tv] (call (.ref q) [Value.str (S (xs.getD (j + 1) [])) tv])) _ >>= _) _ _ _
      refine wpAny_bind (wpAny_tryCatch (wpAny_holding (key_call (o1 := oi) (o2 := scO (.str (S (xs.getD b [])) tk) (.ref t) c) Fk hr hb oI oS I2 nI nS hoi hS2 (fun v e => by rw [di] at e; cases e) (fun v e => nomatch e) hxj fun t2 H2 s2 I3 sm2 ht2 hoi2 hS3 nI2 nS2 => ?_)))
      have hit2 : s2.heap.IsListIter It l (j + 1 + 1) := ⟨oi, hoi2, ci, di⟩
      have ht' := sm2 _ _ ht
      refine wpAny_bind (wpAny_tryCatch (wpAny_holding (wpAny_bind (lt_pairs I3 (A := X.A.in1) (by have := hr.un; show X.A.units + 1 < cLine; omega) ht2 ht' ?_))))
      refine wpAny_bind (wpAny_holding (wpAny_truthy_bool ?_))
      refine wpAny_bind (wpAny_letGo (wpAny_pure ?_))
      by_cases hlt : OrdL (xs.getD (j + 1) []) (xs.getD b [])
      · rw [decide_eq_true hlt]
        simp only [if_true]
        refine wpAny_bind (wpAny_updateSeq hS3 rfl (wpAny_bind (wpAny_letGo ?_)))
        rw [hname]
        refine wpAny_pure ⟨plainId_quiet PySem.F.plain_min_loop _, ih (j + 1) (j + 1) _ H2 t2 tv _ (by omega) (oS.turn (tk := s2.toks) I3 nS2 fun b o n e => (Heap.get?_update_other _ _ n.symm).trans e) (sm.trans sm2) nI2 nS2 (hit2.at fun o e => (Heap.get?_update_other _ _ hIS.symm).trans e) (Heap.get?_update_self _ hS3 rfl) ht2 (Nat.le_refl _) fun i hi hl2 => ?_⟩
        by_cases q : i = j + 1
        · subst q; exact OrdL.irr _ hl2
        · exact best i (by omega) (hl2.trans hlt)
      · rw [decide_eq_false hlt]
        simp only [Bool.false_eq_true, if_false]
        refine wpAny_bind (wpAny_letGo ?_)
        rw [hname]
        refine wpAny_pure ⟨plainId_quiet PySem.F.plain_min_loop _, ih (j + 1) b _ H2 t tk c (by omega) I3 (sm.trans sm2) nI2 nS2 hit2 hS3 ht' (by omega) fun i hi => ?_⟩
        by_cases q : i = j + 1
        · subst q; exact hlt
        · exact best i (by omega))
def rMinKey (K : PySem.W.Frag) (q : Addr) : List V → List V → Hp → VK → Prop := fun vs zs H Q => ∃ (l : Addr) (xs : List (List Nat)), vs = [V.ref l] ∧ zs = [V.ref q] ∧ SqL K H l (txs xs) ∧ 0 < xs.length ∧ (∀ x ∈ xs, x.length ≤ 1000) ∧
  ∀ (m : List Nat) (H' : Hp), Same H H' → m ∈ xs → (∀ y ∈ xs, ¬ OrdL y m) → Q (.str (S m)) H'
theorem cr_minKey (hc : X.calm = true) (Fk : FnOk X.prog X.w X.K X.mg X.base C8.CX0 kf q fd ps spOrd) (hr : Room (kf + 1) X.A) (hb : Binds X.K fd ps []) : CallRK X (.builtin "min") [Str.ofString "key"] (rMinKey X.K q) := by
  intro pins s σ H vs zs us ws Q I rv0 rz h
  obtain ⟨l, xs, rfl, rfl, hsq, hpos, hxs, kQ⟩ := h
  obtain ⟨u, rfl, ru⟩ := vals1 rv0
  obtain ⟨u2, rfl, ru2⟩ := vals1 rz
  obtain rfl : u = Value.ref l := ru
  obtain rfl : u2 = Value.ref q := ru2
  obtain ⟨its, rv, pl, _⟩ := I.list hsq
  have hname : (toString "min" ++ toString ".loop" : String) = "min.loop" := by decide
  have gd : ∀ i, i < xs.length → xs[i]? = some (xs.getD i []) := fun i hi => by rw [List.getD_eq_getElem?_getD, List.getElem?_eq_getElem hi]; rfl
  have hn : its.toArray.size = xs.length := by rw [List.size_toArray, ← rv.length, txs_len]
  obtain ⟨ol, hol, _⟩ := pl.isList
  have hll : l < s.heap.objs.size := Heap.lt_size hol
  have hlI : l ≠ s.heap.objs.size := Nat.ne_of_lt hll
  show wpAny _ _ (call (.builtin "min") [Value.ref l] [(Str.ofString "key", .ref q)]) _ _ s
  refine PyProof.Rows.kmk_tree PySem.F.kind_min PySem.F.plain_min PySem.F.entry_min (PyProof.Rows.kmk_min_key _ _) (by
    show wpAny _ X.A.in1 (Builtin.Builtins.bindParams "min" ["key", "default"] 0 ⟨[], [(Str.ofString "key", .ref q)]⟩ >>= _) _ _ s
    refine wpAny_bind (wpAny_of_eq (show Builtin.Builtins.bindParams "min" ["key", "default"] 0 ⟨[], [(Str.ofString "key", .ref q)]⟩ = pure [some (.ref q), none] from rfl) ?_)
    refine wpAny_bind (wpAny_pure (wpAny_bind (wpAny_pyIter_list pl.isList (wpAny_bind (wpAny_newObj_type ?_)))))
    rw [hname]
    have hit0 : (s.heap.push { cls := .type "list_iterator", data := .fields #[.ref l, .int 0 0] }).get? s.heap.objs.size = some { cls := .type "list_iterator", data := .fields #[.ref l, .int 0 0] } := Heap.get?_push_size _ rfl
    have hsz1 : (s.heap.push { cls := .type "list_iterator", data := .fields #[.ref l, .int 0 0] }).objs.size = s.heap.objs.size + 1 := Heap.size_push ..
    rw [hsz1]
    have k1 : ∀ b o, s.heap.get? b = some o → ((s.heap.push { cls := .type "list_iterator", data := .fields #[.ref l, .int 0 0] }).push { cls := .type "list", data := .seq #[] 0 }).get? b = some o := fun b o e => Heap.get?_push_of_some _ (Heap.get?_push_of_some _ e)
    have hS0 : ((s.heap.push { cls := .type "list_iterator", data := .fields #[.ref l, .int 0 0] }).push { cls := .type "list", data := .seq #[] 0 }).get? (s.heap.objs.size + 1) = some { cls := .type "list", data := .seq #[] 0 } := by rw [← hsz1]; exact Heap.get?_push_size _ rfl
    have hI0 : ((s.heap.push { cls := .type "list_iterator", data := .fields #[.ref l, .int 0 0] }).push { cls := .type "list", data := .seq #[] 0 }).get? s.heap.objs.size = some { cls := .type "list_iterator", data := .fields #[.ref l, .int 0 0] } := Heap.get?_push_of_some _ hit0
    have oI : OwnA X pins s.heap.objs.size := OwnA.new I (Nat.le_refl _)
    have oS : OwnA X pins (s.heap.objs.size + 1) := OwnA.new I (Nat.le_succ _)
    have nI : H s.heap.objs.size = none := I.hok.fresh (Nat.le_refl _)
    have nS : H (s.heap.objs.size + 1) = none := I.hok.fresh (Nat.le_succ _)
    have I1 : Inv X pins σ H { s with heap := (s.heap.push { cls := .type "list_iterator", data := .fields #[.ref l, .int 0 0] }).push { cls := .type "list", data := .seq #[] 0 }, toks := s.toks } := I.kept k1
    have hIS : s.heap.objs.size ≠ s.heap.objs.size + 1 := Nat.ne_of_lt (Nat.lt_succ_self _)
    have pl1 := pl.isList.at fun o e => k1 l o e
    generalize (s.heap.push { cls := .type "list_iterator", data := .fields #[.ref l, .int 0 0] }).push { cls := .type "list", data := .seq #[] 0 } = h1 at hS0 hI0 I1 pl1 ⊢
    generalize s.heap.objs.size + 1 = Sc at hS0 oS nS hIS ⊢
    generalize s.heap.objs.size = It at hI0 oI nI hIS hlI ⊢
    have W := Walks.list (prog := X.prog) (w := X.w) (A := X.A.in1) (by simp [I.ok.hd hc]) It l hlI its.toArray
    have hx0 := gd 0 hpos
    refine wpAny_pure ⟨plainId_quiet PySem.F.plain_min_loop _, codeAny_builtin PySem.F.entry_min_loop (by
      rw [Around.under_plainId PySem.F.plain_min_loop _]
      show wpAny _ X.A.in1 (seqItems? (.ref Sc) >>= _) _ _ _
      refine wpAny_bind (wpAny_seqItems hS0 rfl ?_)
      show wpAny _ X.A.in1 (tryCatch (pyNext (.ref It)) _ >>= _) _ _ _
      refine wpAny_bind (wpAny_tryCatch (W.item 0 _ _ _ (by omega) ⟨⟨_, hI0, rfl, rfl⟩, pl1⟩ fun v h' tk' hP hst hm => ?_))
      have I2 : Inv X pins σ H { s with heap := h', toks := tk' } := oI.turn I1 nI fun b o n e => hm b o (by simpa using n) e
      have hS2 : h'.get? Sc = some { cls := .type "list", data := .seq #[] 0 } := hm Sc _ (by simpa using hIS.symm) hS0
      obtain ⟨tv, rfl⟩ : ∃ tv, v = .str (S (xs.getD 0 [])) tv := by
        have e1 : (txs xs)[0]? = some (.str (S (xs.getD 0 []))) := by unfold txs; rw [List.getElem?_map, hx0]; rfl
        obtain ⟨u, eu, ru⟩ := rv.get e1
        have hP' : its[0]? = some v := by simpa using hP
        rw [hP'] at eu
        obtain ⟨tv, rfl⟩ := ru
        exact ⟨tv, Option.some.inj eu⟩
      obtain ⟨oi, hoi, ci, di⟩ := hst.1
      show wpAny _ X.A.in1 (tryCatch (holding [Value.str (S (xs.getD 0 [])) tv] (call (.ref q) [Value.str (S (xs.getD 0 [])) tv])) _ >>= _) _ _ _
      refine wpAny_bind (wpAny_tryCatch (wpAny_holding (key_call (o1 := oi) (o2 := { cls := .type "list", data := .seq #[] 0 }) Fk hr hb oI oS I2 nI nS hoi hS2 (fun v e => by rw [di] at e; cases e) (fun v e => nomatch e) (hxs _ (List.mem_of_getElem? hx0)) fun t2 H2 s2 I3 sm2 ht2 hoi2 hS3 nI2 nS2 => ?_)))
      have hit2 : s2.heap.IsListIter It l (0 + 1) := ⟨oi, hoi2, ci, di⟩
      show wpAny _ X.A.in1 (updateSeq Sc (fun _ => #[Value.str (S (xs.getD 0 [])) tv, .ref t2]) >>= _) _ _ _
      refine wpAny_bind (wpAny_updateSeq hS3 rfl ?_)
      rw [hname]
      exact wpAny_pure ⟨plainId_quiet PySem.F.plain_min_loop _, min_turns (H1 := H) hc Fk hr hb oI oS hIS hlI hsq hxs (fun m tk H' s' I' sm hm hmin => ⟨.str (S m), H', I', ⟨tk, rfl⟩, kQ m H' sm hm hmin⟩) (xs.length - 1) 0 0 _ H2 t2 tv _ (by omega) (oS.turn (tk := s2.toks) I3 nS2 fun b o n e => (Heap.get?_update_other _ _ n.symm).trans e) sm2 nI2 nS2 (hit2.at fun o e => (Heap.get?_update_other _ _ hIS.symm).trans e) (Heap.get?_update_self _ hS3 rfl) ht2 (Nat.le_refl _) fun i hi hl2 => by
        obtain rfl : i = 0 := by omega
        exact OrdL.irr _ hl2⟩)⟩)
end
end LX
set_option maxHeartbeats 4000000
namespace LX
open PySem PySem.Spec PyProof.Rows L2 C8 SX
section
variable {X : Cx}
def rMaxDef (K : PySem.W.Frag) : List V → List V → Hp → VK → Prop := fun vs zs H Q => ∃ (l : Addr) (ns : List Int) (d : Int), vs = [V.ref l] ∧ zs = [V.int d] ∧ SqL K H l (ns.map V.int) ∧
  (ns = [] → Q (.int d) H) ∧ (ns ≠ [] → ∀ m ∈ ns, (∀ y ∈ ns, y ≤ m) → Q (.int m) H)
theorem cr_maxDef (hc : X.calm = true) : CallRK X (.builtin "max") [Str.ofString "default"] (rMaxDef X.K) := by
  intro pins s σ H vs zs us ws Q I rv0 rz h
  obtain ⟨l, ns, d, rfl, rfl, hsq, q0, q1⟩ := h
  obtain ⟨u, rfl, ru⟩ := vals1 rv0
  obtain ⟨u2, rfl, ru2⟩ := vals1 rz
  obtain rfl : u = Value.ref l := ru
  obtain ⟨td, rfl⟩ := ru2
  obtain ⟨its, rv, pl, _⟩ := I.list hsq
  have hn : its.toArray.size = ns.length := by rw [List.size_toArray, ← rv.length, List.length_map]
  have gd : ∀ i, i < ns.length → ns[i]? = some (ns.getD i 0) := fun i hi => by rw [List.getD_eq_getElem?_getD, List.getElem?_eq_getElem hi]; rfl
  have hval : ∀ i v, its.toArray[i]? = some v → ∃ t, v = Value.int (ns.getD i 0) t := fun i v hv => by
    have hi : i < ns.length := by rw [← hn]; exact (Array.getElem?_eq_some_iff.mp hv).1
    have e1 : (ns.map V.int)[i]? = some (V.int (ns.getD i 0)) := by rw [List.getElem?_map, gd i hi]; rfl
    obtain ⟨u, eu, ru⟩ := rv.get e1
    have hv' : its[i]? = some v := by simpa using hv
    rw [hv'] at eu
    obtain ⟨t, rfl⟩ := ru
    exact ⟨t, Option.some.inj eu⟩
  show wpAny _ _ (call (.builtin "max") [Value.ref l] [(Str.ofString "default", .int d td)]) _ _ s
  refine call_max_walkD (PySem.W.iter_listW (A := X.A.in1) (I.ok.hd hc) pl.isList fun s₂ e W st hfp hw hk => ?_)
  refine ⟨_, _, _, _, _, _, _, s.heap, (fun i j => decide (ns.getD i 0 > ns.getD j 0)), rfl, W, st, hfp, hw, hk, fun hz s' m => ?_, fun hp => ⟨fun i j vi vj s Q E _ hi hj hq => CmpOf.ints_gt (P := fun i v => its.toArray[i]? = some v) (fun i => ns.getD i 0) hval i j vi vj s Q E hi hj hq, fun v s' hP m => ?_⟩⟩
  · obtain ⟨h', tk, rfl, hk'⟩ := PySem.W.moved_old e rfl m
    exact ⟨V.int d, H, I.kept hk', ⟨td, rfl⟩, q0 (List.eq_nil_of_length_eq_zero (by omega))⟩
  · obtain ⟨h', tk, rfl, hk'⟩ := PySem.W.moved_old e rfl m
    obtain ⟨t, rfl⟩ := hval _ v hP
    obtain ⟨h1, h2⟩ := argBest_gt (fun i => ns.getD i 0) (its.toArray.size - 1)
    have hp : 0 < its.toArray.size := hp
    have h1 : argBest (fun i j => decide (ns.getD i 0 > ns.getD j 0)) (its.toArray.size - 1) ≤ its.toArray.size - 1 := h1
    refine ⟨V.int _, H, I.kept hk', ⟨t, rfl⟩, q1 (fun e => by rw [e, List.length_nil] at hn; omega) _ (List.mem_of_getElem? (gd _ (by omega))) fun y hy => ?_⟩
    obtain ⟨j, hj⟩ := List.getElem?_of_mem hy
    have hjl := (List.getElem?_eq_some_iff.mp hj).1
    have := h2 j (by omega)
    rw [List.getD_eq_getElem?_getD, hj] at this
    exact this
end
end LX
set_option maxHeartbeats 4000000
namespace LX
open PySem PySem.Spec PyProof.Rows L2 C8 SX
def rLtP : R2 := fun x y H Q => ∃ (a b : Addr) (u v : List Nat), x = .ref a ∧ y = .ref b ∧ H a = some (.tup [.int (u.length : Nat), .str (S u)]) ∧ H b = some (.tup [.int (v.length : Nat), .str (S v)]) ∧ Q (.bl (decide (OrdL u v))) H
theorem op_ltP {X : Cx} (hu : X.A.units < cLine) : OpR X (compareOp .Lt) rLtP := by
  intro pins s σ H x y v u Q I rx ry h
  obtain ⟨a, b, l, m, rfl, rfl, ha, hb, q⟩ := h
  cases rx
  cases ry
  exact lt_pairs I hu ha hb ⟨.bl _, H, I, rfl, q⟩
def Sub (a b : List Nat) : Bool := !(Builtin.Str.occurrences (S b) (S a) 0 (S b).length 1).isEmpty
theorem op_inSub {X : Cx} : OpR X (compareOp .In) (fun x y H Q => ∃ a b : List Nat, x = .str (S a) ∧ y = .str (S b) ∧ Q (.bl (Sub a b)) H) := by
  intro pins s σ H x y v u Q I rx ry h
  obtain ⟨a, b, rfl, rfl, q⟩ := h
  exact op_in_str pins s σ H _ _ v u Q I rx ry ⟨_, _, rfl, rfl, q⟩
theorem pi_enumXK {X : Cx} {e : Expr} {ta : TA} {p pos tpos : Pos} {elts : List Expr} {kk : Nat} (K : PySem.W.Frag) (hg : Gl X "enumerate") (hm : X.mg "enumerate" = none) (ha : PA X [e] ta) (h : X.K = K := by rfl) (hs : starEach [e] X.env = [(false, eval e X.env)] := by rfl) :
    PI X (.Tuple elts kk tpos) (.Call (.Name "enumerate" p) [e] [] pos) (iEnumX K ta) := by subst h; exact pi_enumX hg hm ha hs
end LX
set_option maxHeartbeats 2000000
namespace Toy
open PySem L2 C8 SX LX
local macro_rules | `(tactic| walk_at "c") => `(tactic| refine And.intro (by first | (show (0 : Int) < _; omega) | exact Or.inr ⟨by decide, by decide⟩ | exact Or.inl ⟨by decide, by decide⟩ | (exact ⟨by omega, by omega⟩)) ?_)
local macro_rules | `(tactic| walk_at "s1") => `(tactic| first | refine ⟨_, rfl, ?_⟩ | refine ⟨_, _, rfl, rfl, ?_⟩ | refine .inl ⟨_, rfl, ?_⟩ | walk_at "c")
local macro_rules | `(tactic| walk_at "ix") => `(tactic| refine ⟨_, _, _, _, rfl, rfl, SqL.of (by first | assumption | exact upd_same), rfl, ?_⟩)
local macro_rules | `(tactic| walk_at "s") => `(tactic| repeat (walk_at "s1"))
structure XQ (K : PySem.W.Frag) (mg : Str → Option Value) (n : Str) (C : Addr) : Prop where
  x : XC K C
  g : mg n = some (.ref C)
structure XN (K : PySem.W.Frag) (mg : Str → Option Value) (n : Str) (C : Addr) : Prop where
  q : PySem.W.excIn K C veT "ValueError.__new__" = true
  g : mg n = some (.ref C)
  k : PySem.W.keepIn K (.ref C) = true
  hb : PySem.W.subIn K (.ref C) (.type "BaseException") = some true
  ht : PySem.W.typeIn K (.ref C) = some (.type "type")
theorem XN.r {K : PySem.W.Frag} {mg : Str → Option Value} {n : Str} {C : Addr} (h : XN K mg n C) {X : Cx} (hX : X.K = K := by rfl) : Raises X (.ref C) := raises_own (by rw [hX]; exact h.hb) (by rw [hX]; exact h.ht)
def spXInit (C : Addr) (f : Str) : Sp := fun vs H Q _ => ∃ (a : Addr) (v : V), vs = [.ref a, v] ∧ H a = some (exo a C none) ∧ ∀ dx, H dx = none → dx ≠ a → Q .non (upd (upd H dx (exd dx [(f, v)])) a (exo a C (some dx)))
theorem exo_ne_exd {a C d : Addr} {dd : Option Addr} {fs : List (Str × V)} {H : Hp} (h1 : H a = none) : (upd H a (exo a C dd)) a ≠ none := by rw [upd_same]; simp
theorem raise_read {C : Addr} {f : Str} {v : V} {H : Hp} {Q : XK} (k : ∀ d, H d = none → Q (.ref C) (some d) (upd H d (.xd [(f, v)]))) (a : Addr) (ha : H a = none) :
    spXInit C f (.ref a :: ([v] ++ [])) (upd H a (exo a C none)) (fun v H2 => v = .non ∧ ∃ (d : Addr) (fs : List (Str × V)), H2 a = some (exo a C (some d)) ∧ H2 d = some (exd d fs) ∧ H d = none ∧ Q (.ref C) (some d) (upd (del H2 a) d (.xd fs))) (fun _ _ _ => False) := by
  refine ⟨a, v, rfl, upd_same, fun dx hdx nda => ⟨rfl, dx, [(f, v)], upd_same, by rw [upd_ne nda, upd_same], by rw [upd_ne nda] at hdx; exact hdx, ?_⟩⟩
  rw [upd_ne nda] at hdx
  have e : upd (del (upd (upd (upd H a (exo a C none)) dx (exd dx [(f, v)])) a (exo a C (some dx))) a) dx (.xd [(f, v)]) = upd H dx (.xd [(f, v)]) := by
    funext b
    by_cases h1 : b = dx
    · rw [h1, upd_same, upd_same]
    · rw [upd_ne h1, upd_ne h1]
      by_cases h2 : b = a
      · rw [h2, del_same, ha]
      · rw [del_ne h2, upd_ne h2, upd_ne h1, upd_ne h2]
  rw [e]
  exact k dx hdx
theorem dpa_two {K : PySem.W.Frag} {H : Hp} {xs : List V} {a b : PyData} (h : DpAll K H xs [a, b]) : ∃ v1 v2, xs = [v1, v2] ∧ Dp K H v1 a ∧ Dp K H v2 b := by
  cases h with
  | cons h1 h2 => cases h2 with
    | cons h3 h4 => cases h4; exact ⟨_, _, rfl, h1, h3⟩
theorem row_text {sg : List Nat} {d : PyData} (h : rowO sg (txtO d) = true) : ∃ l, d = .str (S l) ∧ Ov sg l ∧ txtO d = some l := by
  cases d with
  | str s => exact ⟨s.cps.toList, by simp [S], of_decide_eq_true h, rfl⟩
  | _ => cases h
theorem txt_S (l : List Nat) : txtO (.str (S l)) = some l := by simp [txtO, S]
section
variable {P : Program} {w : World} {K : PySem.W.Frag} {mg : Str → Option Value} {base : Heap}
abbrev s_xir : Stmt := inClass (top 3) 0
abbrev n_xir : List Str := ["self", "word"]
theorem sc_xir : FnScope n_xir ["self", "word"] (fnScope s_xir) := fnScope_by (by decide +kernel)
theorem ok_xir {C : Addr} (x_ : XQ K mg "InvalidRules" C) (n_ : PySem.W.findIn K (.ref C) "word" = some none) {f : Addr} (iC : PySem.W.findIn K (.ref C) "__init__" = some (some (.ref f))) (tI : PySem.W.typeIn K (.ref f) = some (.type "function")) {fd : FuncData} (F : C8.Fun K "__init__" "InvalidRules.__init__" s_xir f fd) (b : Binds K fd ["self", "word"] []) : RaiX P w K mg base 1 "InvalidRules" C (spXInit C "word") := by
  refine raiX x_.x iC tI x_.g F b sc_xir (fun vs H Q E h => ?_) (fun cdv A outer s H vs Q E hr h => ?_)
  · obtain ⟨a, v, rfl, _⟩ := h; rfl
  · obtain ⟨a, v, rfl, ha, k⟩ := h
    refine ⟨_, (pss_one (ps_ostG (pv 0) (pv 1))
      ), ?_⟩
    exact ⟨_, rfl, _, rfl, a, C, rfl, x_.x, n_, ha, fun dx h1 h2 => k dx h1 h2⟩
abbrev s_tupof : Stmt := top 7
abbrev n_tupof : List Str := ["value", "many"]
theorem sc_tupof : FnScope n_tupof ["value", "many"] (fnScope s_tupof) := fnScope_by (by decide +kernel)
def tupD (n : Nat) : PyData → Bool
  | .tuple ds => decide (ds.length = n)
  | _ => false
def spTup (K : PySem.W.Frag) : Sp := fun vs H Q _ => ∃ (v : V) (d : PyData), vs = [v, .int 2] ∧ Dp K H v d ∧ Q (.bl (tupD 2 d)) H
theorem ok_tupof (T : BT mg) {f : Addr} {fd : FuncData} (F : Def K mg "is_tuple_of" s_tupof f fd) (b : Binds K fd ["value", "many"] []) : Cal P w K mg base 1 "is_tuple_of" (spTup K) [] := by
  refine cal0 F b .nil sc_tupof (fun vs H Q E h => ?_) (fun cdv A outer s H vs Q E hr h => ?_)
  · obtain ⟨v, d, rfl, _⟩ := h; rfl
  · obtain ⟨v, d, rfl, hd, q⟩ := h
    refine ⟨_, (pss_one (ps_ret (pe_and (pe_callB (isiK K) (by rfl) T.m_isinstance PyProof.Rows.boot_isinstance (pa_cons (pv 0) (pa_cons (pe_bltn (v := .ty "tuple") (by rfl) T.m_tuple PyProof.Rows.boot_tuple rfl) pa_nil))) (pe_one (pe_cmpR op_eq (pe_callB (lenK K) (by rfl) T.m_len PySem.boot_len (pa_cons (pv 0) pa_nil)) (pv 1) (nomark _)))))
      ), ?_⟩
    have no : tupD 2 d = false → PySem.W.kitOne K (.type (tyN d)) (.type "tuple") = some false → tRet (tAndV (tCB (fun xs H Q => True ∧ Q (.bl true) H) tNil) (tC (.bl true))) { nx := fun _ H' => Q V.non H', rt := Q } [some v, some (.int 2)] H → True := fun _ _ _ => trivial
    clear no
    have bad : tupD 2 d = false → PySem.W.kitOne K (.type (tyN d)) (.type "tuple") = some false → ∀ {R : V → Hp → Prop}, R = Q → R (.bl false) H := fun e _ R er => by rw [er, ← e]; exact q
    cases hd with
    | @tup p xs ds hp ha =>
      refine ⟨_, rfl, _, _, _, _, true, rfl, .ty _, ty_seqT hp, kit_ty (a := "tuple") (by decide +kernel), true, rfl, iteT ?_⟩
      refine ⟨_, rfl, p, _, rfl, .inr hp, _, rfl, rfl, ?_⟩
      have e : V.bl (decide (V.int (xs.length : Nat) = V.int 2)) = V.bl (tupD 2 (.tuple ds)) := congrArg V.bl (decide_eq_decide.mpr ⟨fun h => by have := V.int.inj h; have := dpa_len ha; omega, fun h => by rw [dpa_len ha, h]; rfl⟩)
      show Q (V.bl (decide (V.int (xs.length : Nat) = V.int 2))) H
      rw [e]
      exact q
    | non => exact ⟨_, rfl, _, _, _, _, false, rfl, .ty _, dp_ty .non, kit_ty (a := "NoneType") (by decide +kernel), false, rfl, iteN rfl q⟩
    | bl b => exact ⟨_, rfl, _, _, _, _, false, rfl, .ty _, dp_ty (.bl b), kit_ty (a := "bool") (by decide +kernel), false, rfl, iteN rfl q⟩
    | int b => exact ⟨_, rfl, _, _, _, _, false, rfl, .ty _, dp_ty (.int b), kit_ty (a := "int") (by decide +kernel), false, rfl, iteN rfl q⟩
    | str b => exact ⟨_, rfl, _, _, _, _, false, rfl, .ty _, dp_ty (.str b), kit_ty (a := "str") (by decide +kernel), false, rfl, iteN rfl q⟩
    | lst h1 h2 => exact ⟨_, rfl, _, _, _, _, false, rfl, .ty _, dp_ty (.lst h1 h2), kit_ty (a := "list") (by decide +kernel), false, rfl, iteN rfl q⟩
abbrev s_order : Stmt := top 11
abbrev n_order : List Str := ["row"]
theorem sc_order : FnScope n_order ["row"] (fnScope s_order) := fnScope_by (by decide +kernel)
theorem ok_order (T : BT mg) {f : Addr} {fd : FuncData} (F : Def K mg "row_order" s_order f fd) (b : Binds K fd ["row"] []) : Cal P w K mg base 1 "row_order" spOrd [] := by
  refine cal0 F b .nil sc_order (fun vs H Q E h => ?_) (fun cdv A outer s H vs Q E hr h => ?_)
  · obtain ⟨l, rfl, _⟩ := h; rfl
  · obtain ⟨l, rfl, hl, k⟩ := h
    refine ⟨_, (pss_one (ps_ret (pe_tup (pa_cons (pe_callB call_len_str (by rfl) T.m_len PySem.boot_len (pa_cons (pv 0) pa_nil)) (pa_cons (pv 0) pa_nil))))
      ), ?_⟩
    refine ⟨_, rfl, S l, rfl, by rw [S_len]; exact sz hl (by decide), _, rfl, by show 2 ≤ sizeLine; decide, fun t ht => ?_⟩
    rw [S_len]
    exact k t _ (sm_new ht) upd_same
def pairD (sg : List Nat) : PyData → Bool
  | .tuple [a, b] => rowO sg (txtO a) && (rowO sg (txtO b) && decide (OrdL ((txtO b).getD []) ((txtO a).getD [])))
  | _ => false
abbrev s_ispair : Stmt := top 16
abbrev n_ispair : List Str := ["value", "signs"]
theorem sc_ispair : FnScope n_ispair ["value", "signs"] (fnScope s_ispair) := fnScope_by (by decide +kernel)
def spPair (K : PySem.W.Frag) : Sp := fun vs H Q _ => ∃ (v : V) (d : PyData) (sg : List Nat), vs = [v, .str (S sg)] ∧ Dp K H v d ∧ okD d = true ∧ ∀ H', Same H H' → Q (.bl (pairD sg d)) H'
theorem tup_two {d : PyData} (h : tupD 2 d = true) : ∃ a b, d = .tuple [a, b] := by
  cases d with
  | tuple ds =>
    have h1 : ds.length = 2 := of_decide_eq_true h
    match ds, h1 with
    | [a, b], _ => exact ⟨a, b, rfl⟩
  | _ => cases h
theorem pair_no {sg : List Nat} {d : PyData} (h : tupD 2 d = false) : pairD sg d = false := by
  unfold pairD
  split
  · cases h
  · rfl
theorem ok_ispair (T : BT mg) (c_tupof : Cal P w K mg base 1 "is_tuple_of" (spTup K) []) (c_isrow : Cal P w K mg base 1 "is_row" (spIsRowD K) []) (c_order : Cal P w K mg base 1 "row_order" spOrd []) {f : Addr} {fd : FuncData} (F : Def K mg "_is_pair" s_ispair f fd) (b : Binds K fd ["value", "signs"] []) : Cal P w K mg base 2 "_is_pair" (spPair K) [] := by
  refine cal0 F b .nil sc_ispair (fun vs H Q E h => ?_) (fun cdv A outer s H vs Q E hr h => ?_)
  · obtain ⟨v, d, sg, rfl, _⟩ := h; rfl
  · obtain ⟨v, d, sg, rfl, hd, ok, k⟩ := h
    refine ⟨_, (pss_cons (ps_if (PW.pt (pw_or (pt_not (pt_val (pe_c c_tupof hr (by first | decide | omega) (by rfl) (pa_cons (pv 0) (pa_cons pe_int pa_nil))))) (pw_or (pt_not (pt_val (pe_c c_isrow hr (by first | decide | omega) (by rfl) (pa_cons (pe_ix (ixt K) (pv 0) pe_int (fun _ _ => rfl)) (pa_cons (pv 1) pa_nil))))) (pw_or1 (pt_not (pt_val (pe_c c_isrow hr (by first | decide | omega) (by rfl) (pa_cons (pe_ix (ixt K) (pv 0) pe_int (fun _ _ => rfl)) (pa_cons (pv 1) pa_nil))))))))) 
        (pss_one (ps_ret pe_bl)
        )
       pss_nil)
      (pss_one (ps_ret (pe_cmpR (op_ltP hr.units0) (pe_c c_order hr (by first | decide | omega) (by rfl) (pa_cons (pe_ix (ixt K) (pv 0) pe_int (fun _ _ => rfl)) pa_nil)) (pe_c c_order hr (by first | decide | omega) (by rfl) (pa_cons (pe_ix (ixt K) (pv 0) pe_int (fun _ _ => rfl)) pa_nil)) (nomark _)))
      )), ?_⟩
    refine ⟨_, rfl, v, d, rfl, hd, ?_⟩
    cases ht : tupD 2 d with
    | false =>
      refine ⟨_, rfl, iteB rfl ?_⟩
      rw [pair_no ht] at k
      exact k H (Same.refl H)
    | true =>
    obtain ⟨x, y, rfl⟩ := tup_two ht
    have okl := (okD_items ok rfl).2
    have e : pairD sg (.tuple [x, y]) = (rowO sg (txtO x) && (rowO sg (txtO y) && decide (OrdL ((txtO y).getD []) ((txtO x).getD [])))) := rfl
    rw [e] at k
    cases hd with
    | @tup p xs _ hp hxs =>
    obtain ⟨v1, v2, rfl, h1, h3⟩ := dpa_two hxs
    refine ⟨_, rfl, iteN rfl ?_⟩
    refine ⟨_, rfl, p, _, 0, v1, rfl, rfl, hp, rfl, _, rfl, v1, txtO x, sg, rfl, dp_kv h1, okD_sm (okl x (by simp)), ?_⟩
    cases hx : rowO sg (txtO x) with
    | false =>
      refine ⟨_, rfl, iteB rfl ?_⟩
      rw [hx] at k
      exact k H (Same.refl H)
    | true =>
    refine ⟨_, rfl, iteN rfl ?_⟩
    refine ⟨_, rfl, p, _, 1, v2, rfl, rfl, hp, rfl, _, rfl, v2, txtO y, sg, rfl, dp_kv h3, okD_sm (okl y (by simp)), ?_⟩
    rw [hx, Bool.true_and] at k
    cases hy : rowO sg (txtO y) with
    | false =>
      refine ⟨_, rfl, iteB rfl ?_⟩
      rw [hy] at k
      exact k H (Same.refl H)
    | true =>
    refine ⟨_, rfl, iteN rfl ?_⟩
    rw [hy, Bool.true_and] at k
    obtain ⟨lx, rfl, _, ex⟩ := row_text hx
    obtain ⟨ly, rfl, _, ey⟩ := row_text hy
    rw [ex, ey] at k
    have hlx := (okD_text (okl _ (by simp) : okD (.str (S lx)) = true)).1
    have hly := (okD_text (okl _ (by simp) : okD (.str (S ly)) = true)).1
    cases h1
    cases h3
    refine nxt ?_
    dsimp only
    refine ⟨_, rfl, p, _, 1, _, rfl, rfl, hp, rfl, ly, rfl, by omega, fun t H1 s1 h1 => ?_⟩
    refine ⟨_, rfl, p, _, 0, _, rfl, rfl, sm_seqT s1 hp, rfl, lx, rfl, by omega, fun t2 H2 s2 h2 => ?_⟩
    exact ⟨t, t2, ly, lx, rfl, rfl, s2 _ _ h1, h2, k H2 (s1.trans s2)⟩
end
end Toy
set_option maxHeartbeats 2000000
namespace Toy
open PySem L2 C8 SX LX
local macro_rules | `(tactic| walk_at "c") => `(tactic| refine And.intro (by first | (show (0 : Int) < _; omega) | exact Or.inr ⟨by decide, by decide⟩ | exact Or.inl ⟨by decide, by decide⟩ | (exact ⟨by omega, by omega⟩)) ?_)
local macro_rules | `(tactic| walk_at "s1") => `(tactic| first | refine ⟨_, rfl, ?_⟩ | refine ⟨_, _, rfl, rfl, ?_⟩ | refine .inl ⟨_, rfl, ?_⟩ | walk_at "c")
local macro_rules | `(tactic| walk_at "ix") => `(tactic| refine ⟨_, _, _, _, rfl, rfl, SqL.of (by first | assumption | exact upd_same), rfl, ?_⟩)
local macro_rules | `(tactic| walk_at "s") => `(tactic| repeat (walk_at "s1"))
theorem txs_get {ims : List (List Nat)} {i : Nat} {x : V} (h : (txs ims)[i]? = some x) : ∃ l, ims[i]? = some l ∧ x = .str (S l) := by
  unfold txs at h
  rw [List.getElem?_map] at h
  cases e : ims[i]? with
  | none => rw [e] at h; cases h
  | some l => rw [e] at h; cases h; exact ⟨l, rfl, rfl⟩
theorem items_seq (b : Bool) (ds : List PyData) : itemsD (seqD b ds) = some ds := by cases b <;> rfl
theorem items_no {d : PyData} (h : isSeqD d = false) : itemsD d = none := by
  cases d <;> first | rfl | cases h
def leftD : PyData → List Nat
  | .tuple (a :: _) => (txtO a).getD []
  | _ => []
def noSub (ls : List (List Nat)) : Bool := (List.range ls.length).all fun i => !(((takenN (fun j => decide (j ≠ i)) ls.length).map fun j => Sub (ls.getD i []) (ls.getD j [])).any id)
def pairsD (sg : List Nat) (d : PyData) : Bool := match itemsD d with
  | none => false
  | some ds => (ds.map (pairD sg)).all id && noSub (ds.map leftD)
theorem pair_form {sg : List Nat} {d : PyData} (h : pairD sg d = true) : ∃ l r, d = .tuple [.str (S l), .str (S r)] ∧ Ov sg l ∧ Ov sg r ∧ OrdL r l := by
  have ht : tupD 2 d = true := by
    cases e : tupD 2 d with
    | true => rfl
    | false => rw [pair_no e] at h; cases h
  obtain ⟨x, y, rfl⟩ := tup_two ht
  have h : (rowO sg (txtO x) && (rowO sg (txtO y) && decide (OrdL ((txtO y).getD []) ((txtO x).getD [])))) = true := h
  rw [Bool.and_eq_true, Bool.and_eq_true] at h
  obtain ⟨h1, h2, h3⟩ := h
  obtain ⟨lx, rfl, ox, ex⟩ := row_text h1
  obtain ⟨ly, rfl, oy, ey⟩ := row_text h2
  rw [ex, ey] at h3
  exact ⟨lx, ly, rfl, ox, oy, of_decide_eq_true h3⟩
abbrev Ps := List (List Nat × List Nat)
def prD (p : List Nat × List Nat) : PyData := .tuple [.str (S p.1), .str (S p.2)]
theorem pairs_form {sg : List Nat} : ∀ {ds : List PyData}, (ds.map (pairD sg)).all id = true → ∃ ps : Ps, ds = ps.map prD ∧ ∀ p ∈ ps, Ov sg p.1 ∧ Ov sg p.2 ∧ OrdL p.2 p.1
  | [], _ => ⟨[], rfl, fun _ h => nomatch h⟩
  | d :: ds, h => by
    rw [List.map_cons, List.all_cons, Bool.and_eq_true] at h
    obtain ⟨l, r, rfl, h1, h2, h3⟩ := pair_form h.1
    obtain ⟨ps, rfl, hps⟩ := pairs_form h.2
    exact ⟨(l, r) :: ps, rfl, fun p hp => by
      rcases List.mem_cons.mp hp with rfl | hp
      · exact ⟨h1, h2, h3⟩
      · exact hps p hp⟩
theorem left_pr (ps : Ps) : (ps.map prD).map leftD = ps.map (·.1) := by
  rw [List.map_map]
  exact List.map_congr_left fun p _ => by show ((txtO (.str (S p.1))).getD []) = p.1; simp [txtO, S]
theorem dp_pr {K : PySem.W.Frag} {H : Hp} {x : V} {p : List Nat × List Nat} (h : Dp K H x (prD p)) : ∃ q, x = .ref q ∧ SqT K H q [.str (S p.1), .str (S p.2)] := by
  unfold prD at h
  cases h with
  | @tup a xs _ hp hxs =>
    obtain ⟨v1, v2, rfl, h1, h2⟩ := dpa_two hxs
    cases h1
    cases h2
    exact ⟨a, rfl, hp⟩
def anyAt (ls : List (List Nat)) (i : Nat) : Bool := ((takenN (fun j => decide (j ≠ i)) ls.length).map fun j => Sub (ls.getD i []) (ls.getD j [])).any id
theorem noSub_no {ls : List (List Nat)} {i : Nat} (hi : i < ls.length) (h : anyAt ls i = true) : noSub ls = false := by
  unfold noSub
  rw [List.all_eq_false]
  exact ⟨i, List.mem_range.mpr hi, by show ¬ (!(anyAt ls i)) = true; rw [h]; decide⟩
theorem noSub_yes {ls : List (List Nat)} (h : ∀ i, i < ls.length → anyAt ls i = false) : noSub ls = true := by
  unfold noSub
  rw [List.all_eq_true]
  exact fun i hi => by show (!(anyAt ls i)) = true; rw [h i (List.mem_range.mp hi)]; rfl
section
variable {P : Program} {w : World} {K : PySem.W.Frag} {mg : Str → Option Value} {base : Heap}
abbrev s_ispairs : Stmt := top 15
abbrev n_ispairs : List Str := ["value", "signs", "lefts", "at", "left", "pair", "right", "number", "other"]
theorem sc_ispairs : FnScope n_ispairs ["value", "signs"] (fnScope s_ispairs) := fnScope_by (by decide +kernel)
def spPairs (K : PySem.W.Frag) : Sp := fun vs H Q _ => ∃ (v : V) (d : PyData) (sg : List Nat), vs = [v, .str (S sg)] ∧ Dp K H v d ∧ okD d = true ∧ ∀ H', Same H H' → Q (.bl (pairsD sg d)) H'
theorem ok_ispairs (T : BT mg) (c_isseq : Cal P w K mg base 1 "is_sequence" (spIsSeqD K) []) (c_ispair : Cal P w K mg base 2 "_is_pair" (spPair K) []) {f : Addr} {fd : FuncData} (F : Def K mg "_is_pairs" s_ispairs f fd) (b : Binds K fd ["value", "signs"] []) : Cal P w K mg base 3 "_is_pairs" (spPairs K) [] := by
  refine cal0 F b .nil sc_ispairs (fun vs H Q E h => ?_) (fun cdv A outer s H vs Q E hr h => ?_)
  · obtain ⟨v, d, sg, rfl, _⟩ := h; rfl
  · obtain ⟨v, d, sg, rfl, hd, ok, k⟩ := h
    refine ⟨_, (pss_cons (ps_if (PW.pt (pw_or (pt_not (pt_val (pe_c c_isseq hr (by first | decide | omega) (by rfl) (pa_cons (pv 0) pa_nil)))) (pw_or1 (pt_not (pt_val (pe_callB (cr_all rfl) (by rfl) T.m_all PyProof.Rows.boot_all (pa_cons (pe_lc (own := [("pair", 5)]) rfl sc_ispairs.nd (pi_seq (pv 0)) (blkOk_by (N := n_ispairs) (sc := fnScope s_ispairs) (by decide +kernel)) (fun _ _ _ _ _ => (pg_name (i := 5) sc_ispairs.nd rfl (.inl rfl))) (fun _ _ _ _ _ => pts_nil) (fun _ _ _ _ _ => (pe_c c_ispair hr (by first | decide | omega) (by rfl) (pa_cons (pv 5) (pa_cons (pv 1) pa_nil))))) pa_nil))))))) 
        (pss_one (ps_ret pe_bl)
        )
       pss_nil)
      (pss_cons (ps_setLc (i := 2) (own := [("left", 4), ("right", 6)]) rfl sc_ispairs.nd rfl rfl rfl (pi_seq (pv 0)) (blkOk_by (N := n_ispairs) (sc := fnScope s_ispairs) (by decide +kernel)) (fun _ _ _ _ _ => (tupK K 2 (pgs_cons (pg_name (i := 4) sc_ispairs.nd rfl (.inl rfl)) (pgs_cons (pg_name (i := 6) sc_ispairs.nd rfl (.inl rfl)) pgs_nil)))) (fun _ _ _ _ _ => pts_nil) (fun _ _ _ _ _ => (pv 4)))
      (pss_cons (ps_for PassesOwn.never rfl (pi_enumX (by rfl) T.m_enumerate (pa_cons (pv 2) pa_nil)) (tupK K 2 (pgs_cons (pg_name (i := 3) sc_ispairs.nd rfl (.inr rfl)) (pgs_cons (pg_name (i := 4) sc_ispairs.nd rfl (.inr rfl)) pgs_nil))) 
        (pss_one (ps_if (pt_val (pe_callB (anyK K rfl) (by rfl) T.m_any PyProof.Rows.boot_any (pa_cons (pe_lc (own := [("number", 7), ("other", 8)]) rfl sc_ispairs.nd (pi_enumX (by rfl) T.m_enumerate (pa_cons (pv 2) pa_nil)) (blkOk_by (N := n_ispairs) (sc := fnScope s_ispairs) (by decide +kernel)) (fun _ _ _ _ _ => (tupK K 2 (pgs_cons (pg_name (i := 7) sc_ispairs.nd rfl (.inl rfl)) (pgs_cons (pg_name (i := 8) sc_ispairs.nd rfl (.inl rfl)) pgs_nil)))) (fun _ _ _ _ _ => pts_one (pt_cmpR op_ne (pv 7) (pv 3) (nomark _))) (fun _ _ _ _ _ => (pe_cmpR op_inSub (pv 4) (pv 8) rfl))) pa_nil))) 
          (pss_one (ps_ret pe_bl)
          )
         pss_nil)
        ))
      (pss_one (ps_ret pe_bl)
      )))), ?_⟩
    refine ⟨_, rfl, v, d, rfl, hd, fun H1 s1 => ?_⟩
    cases hb : isSeqD d with
    | false =>
      refine ⟨_, rfl, iteB rfl ?_⟩
      have e : pairsD sg d = false := by unfold pairsD; rw [items_no hb]
      rw [e] at k
      exact k H1 s1
    | true =>
    obtain ⟨b, ds, rfl⟩ := isSeq_of hb
    obtain ⟨p, xs, rfl, hq, ha⟩ := dp_seq (dp_same s1 _ _ hd)
    have hl := dpa_len ha
    obtain ⟨f1, f2⟩ := okD_items ok (items_seq b ds)
    have ek : pairsD sg (seqD b ds) = ((ds.map (pairD sg)).all id && noSub (ds.map leftD)) := by unfold pairsD; rw [items_seq]
    rw [ek] at k
    refine ⟨_, rfl, iteN rfl ?_⟩
    refine ⟨_, rfl, p, b, xs, rfl, hq, fun D hD => lc_keep keep_same (walk_seq (K := K) (b := b) (a := p) (xs := xs)) hD (by rw [hl]; exact small1000 (by omega)) (fun j y => ∀ x, ds[j]? = some x → y = .bl (pairD sg x)) (fun H2 r => hq.same r) (fun i x H2 H3 R hii r1 hy hR => ?_) (fun ys H2 hly hg r1 hDs => ?_)⟩
    · obtain ⟨rfl, e⟩ := hy
      obtain ⟨d, e2, hd2⟩ := dpa_at ha i x e
      refine ⟨rfl, ?_⟩
      refine ⟨_, rfl, _, rfl, x, _, sg, rfl, dp_same r1 _ _ hd2, f2 _ (List.mem_of_getElem? e2), fun H4 s4 => ?_⟩
      exact hR _ _ s4 fun z hz => by rw [e2] at hz; cases hz; rfl
    have eb : ys = (ds.map (pairD sg)).map V.bl := by
      rw [List.map_map]
      refine list_map (hly.trans hl) fun j y x e1 e2 => hg j y e1 x e2
    have s2 := s1.trans r1
    refine ⟨D, ds.map (pairD sg), rfl, SqL.of (by rw [← eb]; exact hDs), ?_⟩
    cases hall : (ds.map (pairD sg)).all id with
    | false =>
      refine ⟨_, rfl, iteB rfl ?_⟩
      rw [hall] at k
      exact k H2 s2
    | true =>
    rw [hall, Bool.true_and] at k
    refine ⟨_, rfl, iteN rfl ?_⟩
    obtain ⟨ps, rfl, hps⟩ := pairs_form hall
    rw [left_pr] at k
    clear hDs hly hg eb hall ek hD
    have ha2 := hq.same r1
    refine nxt ?_
    dsimp only
    refine ⟨_, rfl, p, b, xs, rfl, ha2, fun D hD => ?_⟩
    refine lc_keep keep_same (walk_seq (K := K) (b := b) (a := p) (xs := xs)) hD (by rw [hl]; exact small1000 (by omega)) (fun j y => ∀ q, ps[j]? = some q → y = .str (S q.1)) (fun H2 r => ha2.same r) (fun i x H3 H4 R hii r1' hy hR => ?_) (fun ys H3 hly hg r3 hDs => ?_)
    · obtain ⟨rfl, e⟩ := hy
      obtain ⟨d, e2, hd2⟩ := dpa_at ha i x e
      rw [List.getElem?_map] at e2
      cases hp : ps[i]? with
      | none => rw [hp] at e2; cases e2
      | some q =>
      rw [hp] at e2
      obtain rfl := Option.some.inj e2
      obtain ⟨qa, rfl, hqa⟩ := dp_pr (dp_same (r1.trans r1') _ _ hd2)
      refine ⟨qa, _, rfl, hqa, rfl, _, _, rfl, _, _, rfl, rfl, rfl, ?_⟩
      refine ⟨_, rfl, hR _ _ (Same.refl _) fun q' hq' => ?_⟩
      rw [hp] at hq'
      rw [← Option.some.inj hq']
    have ey : ys = txs (ps.map (·.1)) := by
      unfold txs
      rw [List.map_map]
      exact list_map (by rw [hly, hl, List.length_map]) fun j y q e1 e2 => hg j y e1 q e2
    subst ey
    have s3 := s2.trans r3
    have hn : (ps.map (·.1)).length ≤ 20 := by rw [List.length_map]; rw [List.length_map] at f1; exact f1
    generalize ps.map (·.1) = ls at hDs k hn
    clear hly hg hD r3 ha2 hps f2 f1 hl ha
    refine ⟨_, rfl, .ref D, .lst D, rfl, rfl, ⟨_, SqL.of hDs⟩, ?_⟩
    refine for_it (walk_enumX (K := K) (S := .lst D) (xs := txs ls)) (fun i σ H' => (∃ s3 s4 : Option V, σ = [some (.ref p), some (.str (S sg)), some (.ref D), s3, s4, none, none, none, none]) ∧ Same H3 H' ∧ ∀ j, j < i → anyAt ls j = false)
      ⟨⟨_, _, rfl⟩, Same.refl _, fun j hj => by omega⟩ (fun _ _ _ _ h => SqL.of (h.2.1 _ _ hDs)) ?_ ?_
    · rintro i x σ H4 H4' hi ⟨⟨s3', s4', rfl⟩, w4, hno⟩ ⟨t, x1, x2, rfl, ht, rfl, e1, e2⟩
      obtain rfl : V.int (i : Nat) = x1 := Option.some.inj e1
      obtain ⟨l, hl1, rfl⟩ := txs_get e2
      rw [txs_len] at hi
      have sT : Same H4 (upd H4 t (.tup [.int (i : Nat), .str (S l)])) := sm_new ht
      refine ⟨t, _, rfl, .inl (.inl upd_same), rfl, _, _, rfl, _, _, rfl, rfl, ?_⟩
      have hD5 := (w4.trans sT) _ _ hDs
      generalize upd H4 t (.tup [.int (i : Nat), .str (S l)]) = H5 at sT hD5 ⊢
      have hgl : ls.getD i [] = l := by rw [List.getD_eq_getElem?_getD, hl1]; rfl
      refine ⟨_, rfl, .ref D, .lst D, rfl, rfl, ⟨_, SqL.of hD5⟩, fun D2 hD2 => ?_⟩
      refine lc_keepF keep_same (walk_enumX (K := K) (S := .lst D) (xs := txs ls)) hD2 (by rw [txs_len]; exact small1000 (by omega)) (fun j => decide (j ≠ i)) (fun j y _ => y = .bl (Sub l (ls.getD j []))) (fun H r => SqL.of (r _ _ hD5)) (fun _ _ _ _ _ _ h => h) (fun _ _ _ _ _ _ _ h => h) (fun j x Hx Hy acc N R hj r hDa hy hR hN => ?_) (fun ys H6 hly hg w6 hDs2 => ?_)
      · obtain ⟨t2, y1, y2, rfl, ht2, rfl, e1, e2⟩ := hy
        obtain rfl : V.int (j : Nat) = y1 := Option.some.inj e1
        obtain ⟨m, hm1, rfl⟩ := txs_get e2
        have hgm : ls.getD j [] = m := by rw [List.getD_eq_getElem?_getD, hm1]; rfl
        rw [hgm] at hR
        refine ⟨t2, _, rfl, .inl (.inl upd_same), rfl, _, _, rfl, _, _, rfl, rfl, rfl, ?_⟩
        refine ⟨_, rfl, _, rfl, rfl, _, rfl, ?_⟩
        by_cases hji : j = i
        · refine iteN (by subst hji; simp) ?_
          exact hN (by rw [decide_eq_false]; exact fun h => h hji) _ (sm_new ht2)
        · refine iteB (by simp; omega) ?_
          exact ⟨_, rfl, _, rfl, l, m, rfl, rfl, hR (decide_eq_true hji) _ _ (sm_new ht2) rfl⟩
      rw [txs_len] at hly hg
      have ey : ys = ((takenN (fun j => decide (j ≠ i)) ls.length).map fun j => Sub (ls.getD i []) (ls.getD j [])).map V.bl := by
        rw [List.map_map, hgl]
        exact list_map hly fun j y c e1 e2 => hg j c y e2 e1
      subst ey
      refine ⟨D2, _, rfl, SqL.of hDs2, ?_⟩
      rw [show (((takenN (fun j => decide (j ≠ i)) ls.length).map fun j => Sub (ls.getD i []) (ls.getD j [])).any id) = anyAt ls i from rfl]
      cases ha : anyAt ls i with
      | true =>
        refine ⟨_, rfl, iteB rfl ?_⟩
        rw [noSub_no hi ha] at k
        exact k H6 (s3.trans (w4.trans (sT.trans w6)))
      | false =>
        refine ⟨_, rfl, iteN rfl ?_⟩
        refine ⟨⟨_, _, rfl⟩, w4.trans (sT.trans w6), fun j hj => ?_⟩
        by_cases q : j = i
        · rw [q]; exact ha
        · exact hno j (by omega)
    · rintro σ H4 ⟨⟨s3', s4', rfl⟩, w4, hno⟩
      rw [txs_len] at hno
      rw [noSub_yes hno] at k
      exact k H4 (s3.trans w4)
end
end Toy
set_option maxHeartbeats 2000000
namespace Toy
open PySem L2 C8 SX LX
local macro_rules | `(tactic| walk_at "c") => `(tactic| refine And.intro (by first | (show (0 : Int) < _; omega) | exact Or.inr ⟨by decide, by decide⟩ | exact Or.inl ⟨by decide, by decide⟩ | (exact ⟨by omega, by omega⟩)) ?_)
local macro_rules | `(tactic| walk_at "s1") => `(tactic| first | refine ⟨_, rfl, ?_⟩ | refine ⟨_, _, rfl, rfl, ?_⟩ | refine .inl ⟨_, rfl, ?_⟩ | walk_at "c")
local macro_rules | `(tactic| walk_at "ix") => `(tactic| refine ⟨_, _, _, _, rfl, rfl, SqL.of (by first | assumption | exact upd_same), rfl, ?_⟩)
local macro_rules | `(tactic| walk_at "s") => `(tactic| repeat (walk_at "s1"))
theorem seqL_put {K : PySem.W.Frag} {H : Hp} {a p C dx : Addr} {fs : List (Str × V)} {xs : List V} (o : HO) (h : SqL K H p xs) (ha : H a = some (.ins C dx fs)) : SqL K (upd H a o) p xs := by
  rcases h with (h | ⟨o', h⟩) | h
  · exact .inl (.inl (by rw [upd_ne (fun e => by rw [e, ha] at h; cases h)]; exact h))
  · exact .inl (.inr ⟨o', by rw [upd_ne (fun e => by rw [e, ha] at h; cases h)]; exact h⟩)
  · exact .inr h
theorem seqT_put {K : PySem.W.Frag} {H : Hp} {a p C dx : Addr} {fs : List (Str × V)} {xs : List V} (o : HO) (h : SqT K H p xs) (ha : H a = some (.ins C dx fs)) : SqT K (upd H a o) p xs := by
  rcases h with (h | ⟨o', h⟩) | h
  · exact .inl (.inl (by rw [upd_ne (fun e => by rw [e, ha] at h; cases h)]; exact h))
  · exact .inl (.inr ⟨o', by rw [upd_ne (fun e => by rw [e, ha] at h; cases h)]; exact h⟩)
  · exact .inr h
mutual
theorem dp_put {K : PySem.W.Frag} {H : Hp} {a C dx : Addr} {fs : List (Str × V)} (o : HO) (s : H a = some (.ins C dx fs)) : ∀ (d : PyData) (v : V), Dp K H v d → Dp K (upd H a o) v d
  | .none, _, h => by cases h; exact .non
  | .bool b, _, h => by cases h; exact .bl b
  | .int i, _, h => by cases h; exact .int i
  | .str x, _, h => by cases h; exact .str x
  | .list ds, _, h => by
    cases h with
    | lst hs ha => exact .lst (seqL_put o hs s) (dpa_put o s ds _ ha)
  | .tuple ds, _, h => by
    cases h with
    | tup hs ha => exact .tup (seqT_put o hs s) (dpa_put o s ds _ ha)
  | .dict _, _, h => by cases h
theorem dpa_put {K : PySem.W.Frag} {H : Hp} {a C dx : Addr} {fs : List (Str × V)} (o : HO) (s : H a = some (.ins C dx fs)) : ∀ (ds : List PyData) (vs : List V), DpAll K H vs ds → DpAll K (upd H a o) vs ds
  | [], _, h => by cases h; exact .nil
  | d :: ds, _, h => by
    cases h with
    | cons h1 h2 => exact .cons (dp_put o s d _ h1) (dpa_put o s ds _ h2)
end
def ruF (sg : List Nat) (r : Addr) : List (Str × V) := [("signs", .str (S sg)), ("pairs", .ref r)]
def psD (ps : Ps) : PyData := .tuple (ps.map prD)
def Rul (K : PySem.W.Frag) (C : Addr) (H : Hp) (a : Addr) (sg : List Nat) (ps : Ps) : Prop := ∃ dx r : Addr, H a = some (.ins C dx (ruF sg r)) ∧ Dp K H (.ref r) (psD ps)
theorem Rul.same {K : PySem.W.Frag} {C a : Addr} {H H' : Hp} {sg : List Nat} {ps : Ps} (s : Same H H') (h : Rul K C H a sg ps) : Rul K C H' a sg ps := let ⟨dx, r, h1, h2⟩ := h; ⟨dx, r, s _ _ h1, dp_same s _ _ h2⟩
theorem n_sp : ¬ (("signs" : Str) = "pairs") := by decide +kernel
theorem ruF_signs (sg : List Nat) (r : Addr) : (ruF sg r).lookup ("signs" : Str) = some (.str (S sg)) := by
  unfold ruF; rw [List.lookup_cons_self]
theorem ruF_pairs (sg : List Nat) (r : Addr) : (ruF sg r).lookup ("pairs" : Str) = some (.ref r) := by
  have e : (("pairs" : Str) == ("signs" : Str)) = false := by decide +kernel
  unfold ruF; rw [List.lookup_cons, e, List.lookup_cons_self]
theorem ruF_no (sg : List Nat) (r : Addr) {m : Str} (h1 : (m == ("signs" : Str)) = false) (h2 : (m == ("pairs" : Str)) = false) : (ruF sg r).lookup m = none := by
  unfold ruF; rw [List.lookup_cons, h1, List.lookup_cons, h2]; rfl
theorem ruF_put (sg : List Nat) (l : Addr) : putF ("pairs" : Str) (.ref l) (putF ("signs" : Str) (.str (S sg)) []) = ruF sg l := by
  show (if ("signs" : Str) = "pairs" then _ else (("signs" : Str), V.str (S sg)) :: putF ("pairs" : Str) (.ref l) []) = _
  rw [if_neg n_sp]; rfl
structure CC (K : PySem.W.Frag) (C : Addr) : Prop where
  cl : Cls K C
  nS : NoAttr K C "signs"
  nP : NoAttr K C "pairs"
def Down (sg : List Nat) (ps : Ps) : Prop := ∀ p ∈ ps, Ov sg p.1 ∧ Ov sg p.2 ∧ OrdL p.2 p.1
def dueR (d0 d1 : PyData) : Option Str := match txtO d0 with
  | some sg => if Sg sg then (if pairsD sg d1 = true then none else some "pairs") else some "signs"
  | none => some "signs"
theorem due_signs {d0 d1 : PyData} (h : sgO (txtO d0) = false) : dueR d0 d1 = some "signs" := by
  unfold dueR
  cases e : txtO d0 with
  | none => rfl
  | some sg => rw [e] at h; exact if_neg (of_decide_eq_false h)
theorem sg_of {d : PyData} (h : sgO (txtO d) = true) : ∃ sg, d = .str (S sg) ∧ Sg sg := by
  cases d with
  | str s => exact ⟨s.cps.toList, by rw [S_self], of_decide_eq_true h⟩
  | _ => cases h
theorem due_pairs {sg : List Nat} {d1 : PyData} (hs : Sg sg) (h : pairsD sg d1 = false) : dueR (.str (S sg)) d1 = some "pairs" := by
  unfold dueR; rw [txt_S]; exact (if_pos hs).trans (if_neg (by rw [h]; decide))
theorem due_none {sg : List Nat} {d1 : PyData} (hs : Sg sg) (h : pairsD sg d1 = true) : dueR (.str (S sg)) d1 = none := by
  unfold dueR; rw [txt_S]; exact (if_pos hs).trans (if_pos h)
theorem map_prD_inj : ∀ {a b : Ps}, a.map prD = b.map prD → a = b
  | [], [], _ => rfl
  | [], _ :: _, h => by cases h
  | _ :: _, [], h => by cases h
  | x :: xs, y :: ys, h => by
    rw [List.map_cons, List.map_cons, List.cons.injEq] at h
    have e := PyData.tuple.inj h.1
    simp only [List.cons.injEq, PyData.str.injEq, and_true] at e
    have e1 : x.1 = y.1 := by simpa [S] using e.1
    have e2 : x.2 = y.2 := by simpa [S] using e.2
    rw [map_prD_inj h.2, Prod.ext e1 e2]
section
variable {P : Program} {w : World} {K : PySem.W.Frag} {mg : Str → Option Value} {base : Heap}
abbrev s_init : Stmt := inClass (top 13) 0
abbrev n_init : List Str := ["self", "signs", "pairs"]
theorem sc_init : FnScope n_init ["self", "signs", "pairs"] (fnScope s_init) := fnScope_by (by decide +kernel)
def spInitR (K : PySem.W.Frag) (C CI : Addr) : Sp := fun vs H Q E => ∃ (a dx : Addr) (v0 v1 : V) (d0 d1 : PyData), vs = [.ref a, v0, v1] ∧ H a = some (.ins C dx []) ∧ Dp K H v0 d0 ∧ Dp K H v1 d1 ∧ okD d0 = true ∧ okD d1 = true ∧
  (∀ wd, dueR d0 d1 = some wd → ∀ (d : Addr) (H' : Hp), Same H H' → H' d = some (.xd [("word", .str wd)]) → E (.ref CI) (some d) H') ∧
  (∀ (sg : List Nat) (ps : Ps), dueR d0 d1 = none → d0 = .str (S sg) → Sg sg → itemsD d1 = some (ps.map prD) → Down sg ps → ∀ H', (∀ b o, b ≠ a → H b = some o → H' b = some o) → Rul K C H' a sg ps → Q .non H')
theorem ok_initR {C CI : Addr} (T : BT mg) (CH : CC K C) (c_InvalidRules : RaiX P w K mg base 1 "InvalidRules" CI (spXInit CI "word")) (c_issigns : Cal P w K mg base 3 "is_signs" (spIsSignsD K) []) (c_ispairs : Cal P w K mg base 3 "_is_pairs" (spPairs K) []) {f : Addr} {fd : FuncData} (F : C8.Fun K "__init__" "Rules.__init__" s_init f fd) :
    FnOk P w K mg base (L2.CX P w) 4 f fd ["self", "signs", "pairs"] (spInitR K C CI) := by
  refine fnX F sc_init (fun vs H Q E h => ?_) (fun cdv A outer s H vs Q E hr h => ?_)
  · obtain ⟨a, dx, v0, v1, d0, d1, rfl, _⟩ := h; rfl
  · obtain ⟨a, dx, v0, v1, d0, d1, rfl, ha, hd0, hd1, o0, o1, kb, kg⟩ := h
    refine ⟨_, (pss_cons (ps_if (pt_not (pt_val (pe_c c_issigns hr (by first | decide | omega) (by rfl) (pa_cons (pv 1) pa_nil)))) 
        (pss_one (ps_raise rfl (takes_of rfl rfl rfl rfl) (pmk_rai c_InvalidRules hr (by decide) (by rfl) (pa_cons pe_str pa_nil)))
        )
       pss_nil)
      (pss_cons (ps_if (pt_not (pt_val (pe_c c_ispairs hr (by first | decide | omega) (by rfl) (pa_cons (pv 2) (pa_cons (pv 1) pa_nil))))) 
        (pss_one (ps_raise rfl (takes_of rfl rfl rfl rfl) (pmk_rai c_InvalidRules hr (by decide) (by rfl) (pa_cons pe_str pa_nil)))
        )
       pss_nil)
      (pss_cons (ps_fld (pv 0) (pv 1) rfl)
      (pss_one (ps_fld (pv 0) (pe_callTy (tupleK K) (by rfl) T.m_tuple PyProof.Rows.boot_tuple (pa_cons (pv 2) pa_nil)) rfl)
      )))), ?_⟩
    have out : ∀ (wd : Str) (H1 : Hp), dueR d0 d1 = some wd → Same H H1 → ∀ (d : Addr), H1 d = none → E (.ref CI) (some d) (upd H1 d (.xd [("word", .str wd)])) := fun wd H1 e s1 d hd => kb wd e d _ (s1.trans (sm_new hd)) upd_same
    refine ⟨_, rfl, v0, txtO d0, rfl, dp_kv hd0, okD_sm o0, fun H1 s1 => ?_⟩
    cases hs : sgO (txtO d0) with
    | false =>
      refine ⟨_, rfl, iteB rfl ?_⟩
      exact ⟨by decide, raise_read (out _ H1 (due_signs hs) s1)⟩
    | true =>
    obtain ⟨sg, rfl, hsg⟩ := sg_of hs
    have hv0 : v0 = .str (S sg) := by cases hd0; rfl
    subst hv0
    refine ⟨_, rfl, iteN rfl ?_⟩
    refine ⟨_, rfl, _, rfl, v1, d1, sg, rfl, dp_same s1 _ _ hd1, o1, fun H2 s2 => ?_⟩
    have s12 := s1.trans s2
    cases hrw : pairsD sg d1 with
    | false =>
      refine ⟨_, rfl, iteB rfl ?_⟩
      exact ⟨by decide, raise_read (out _ H2 (due_pairs hsg hrw) s12)⟩
    | true =>
    have hsq : isSeqD d1 = true := by
      cases hq : isSeqD d1 with
      | true => rfl
      | false => unfold pairsD at hrw; rw [items_no hq] at hrw; cases hrw
    obtain ⟨b, ds, rfl⟩ := isSeq_of hsq
    obtain ⟨p, xs, rfl, hq, hxs⟩ := dp_seq (dp_same s12 _ _ hd1)
    have hl := dpa_len hxs
    refine ⟨_, rfl, iteN rfl ?_⟩
    have hdue := due_none hsg hrw
    have hall : (ds.map (pairD sg)).all id = true := by unfold pairsD at hrw; rw [items_seq, Bool.and_eq_true] at hrw; exact hrw.1
    obtain ⟨ps, rfl, hps⟩ := pairs_form hall
    have ha2 := s12 _ _ ha
    refine ⟨_, rfl, _, rfl, a, C, dx, [], rfl, ha2, CH.cl, CH.nS, (by show 0 < 1000; decide), ?_⟩
    have fin : ∀ (l : Addr) (H3 : Hp), (∀ c o, c ≠ a → H2 c = some o → H3 c = some o) → H3 a = some (.ins C dx (ruF sg l)) → Dp K H3 (.ref l) (psD ps) → Q .non H3 := fun l H3 hk h1 h2 => kg sg ps hdue rfl hsg (items_seq b _) hps H3 (fun c o n e => hk c o n (s12 _ _ e)) ⟨dx, l, h1, h2⟩
    cases b with
    | true =>
      refine ⟨_, rfl, p, _, rfl, .inl ⟨seqL_put _ hq ha2, fun l hl => ?_⟩⟩
      have hl2 : H2 l = none := by
        by_cases e : l = a
        · rw [e, upd_same] at hl; cases hl
        · rw [upd_ne e] at hl; exact hl
      have nal : a ≠ l := ne_of_none ha2 hl2
      refine ⟨_, rfl, a, C, dx, _, rfl, (by rw [upd_ne nal, upd_same]), CH.cl, CH.nP, (by show 1 < 1000; decide), ?_⟩
      rw [ruF_put]
      have h5 := dpa_put (.ins C dx (putF "signs" (.str (S sg)) [])) ha2 _ _ hxs
      have h6 := dpa_same (sm_new (o := .tup xs) hl) _ _ h5
      refine fin l _ (fun c o n e => ?_) upd_same (.tup (SqT.of (by rw [upd_ne nal.symm, upd_same])) (dpa_put _ (show (upd (upd H2 a (.ins C dx (putF "signs" (.str (S sg)) []))) l (.tup xs)) a = some (.ins C dx (putF "signs" (.str (S sg)) [])) by rw [upd_ne nal, upd_same]) _ _ h6))
      rw [upd_ne n, upd_ne (ne_of_none e hl2), upd_ne n]
      exact e
    | false =>
      refine ⟨_, rfl, p, _, rfl, .inr ⟨seqT_put _ hq ha2, ?_⟩⟩
      refine ⟨_, rfl, a, C, dx, _, rfl, upd_same, CH.cl, CH.nP, (by show 1 < 1000; decide), ?_⟩
      rw [ruF_put]
      refine fin p _ (fun c o n e => ?_) upd_same (dp_put _ upd_same _ _ (dp_put _ ha2 _ _ (.tup hq hxs)))
      rw [upd_ne n, upd_ne n]
      exact e
theorem ok_makeR {C CI : Addr} (T : BT mg) (CH : CC K C) (c_InvalidRules : RaiX P w K mg base 1 "InvalidRules" CI (spXInit CI "word")) (c_issigns : Cal P w K mg base 3 "is_signs" (spIsSignsD K) []) (c_ispairs : Cal P w K mg base 3 "_is_pairs" (spPairs K) []) {f : Addr} (M : Mk K C f) (hm : mg "Rules" = some (.ref C)) {fd : FuncData} (F : C8.Fun K "__init__" "Rules.__init__" s_init f fd) (b : Binds K fd ["self", "signs", "pairs"] []) : MakX P w K mg base 4 "Rules" C (spInitR K C CI) :=
  ⟨f, fd, _, M, ok_initR T CH c_InvalidRules c_issigns c_ispairs F, hm, b⟩
end
end Toy
set_option autoImplicit false
namespace K60
abbrev Tx := List Nat
abbrev Ps := List (Tx × Tx)
abbrev Mv := Nat × Nat
def Ord (a b : Tx) : Prop := a.length < b.length ∨ (a.length = b.length ∧ a < b)
def hit (ps : Ps) (r : Tx) (p n : Nat) : Bool := decide ((r.drop p).take (ps.getD n ([], [])).1.length = (ps.getD n ([], [])).1)
def movesAt (ps : Ps) (r : Tx) (p : Nat) : List Nat := (List.range ps.length).filter fun n => hit ps r p n
def movesL (ps : Ps) (r : Tx) : List Mv := (List.range r.length).flatMap fun p => (movesAt ps r p).map fun n => (p, n)
def afterL (ps : Ps) (r : Tx) (m : Mv) : Tx := r.take m.1 ++ (ps.getD m.2 ([], [])).2 ++ r.drop (m.1 + (ps.getD m.2 ([], [])).1.length)
theorem mem_moves {ps : Ps} {r : Tx} {m : Mv} : m ∈ movesL ps r ↔ m.1 < r.length ∧ m.2 < ps.length ∧ hit ps r m.1 m.2 = true := by
  unfold movesL movesAt
  simp only [List.mem_flatMap, List.mem_range, List.mem_map, List.mem_filter]
  constructor
  · rintro ⟨p, hp, n, ⟨hn, hh⟩, rfl⟩
    exact ⟨hp, hn, hh⟩
  · rintro ⟨h1, h2, h3⟩
    exact ⟨m.1, h1, m.2, ⟨h2, h3⟩, rfl⟩
inductive Road (ps : Ps) : Tx → List Mv → Tx → Prop
  | stop {r : Tx} : movesL ps r = [] → Road ps r [] r
  | go {r e : Tx} {m : Mv} {t ms : List Mv} : movesL ps r = m :: t → Road ps (afterL ps r m) ms e → Road ps r (m :: ms) e
theorem Road.uniq {ps : Ps} {r e : Tx} {ms : List Mv} (h : Road ps r ms e) : ∀ {ms' : List Mv} {e' : Tx}, Road ps r ms' e' → ms = ms' ∧ e = e' := by
  induction h with
  | stop h0 =>
    intro ms' e' h'
    cases h' with
    | stop _ => exact ⟨rfl, rfl⟩
    | go h1 _ => rw [h0] at h1; cases h1
  | go h0 _ ih =>
    intro ms' e' h'
    cases h' with
    | stop h1 => rw [h0] at h1; cases h1
    | go h1 h2 =>
      rw [h0] at h1
      cases h1
      obtain ⟨a, b⟩ := ih h2
      exact ⟨by rw [a], b⟩
theorem Road.done {ps : Ps} {r e : Tx} {ms : List Mv} (h : Road ps r ms e) : movesL ps e = [] := by
  induction h with
  | stop h => exact h
  | go _ _ ih => exact ih
def Gone (ps : Ps) (r0 : Tx) (acc : List Mv) (r : Tx) : Prop := ∀ ms e, Road ps r ms e → Road ps r0 (acc ++ ms) e
theorem Gone.init (ps : Ps) (r : Tx) : Gone ps r [] r := fun _ _ h => h
theorem Gone.next {ps : Ps} {r0 r : Tx} {acc : List Mv} {m : Mv} {t : List Mv} (h : Gone ps r0 acc r) (hm : movesL ps r = m :: t) : Gone ps r0 (acc ++ [m]) (afterL ps r m) := fun ms e hr => by
  have := h (m :: ms) e (.go hm hr)
  rw [List.append_assoc]; exact this
theorem Gone.all {ps : Ps} {r0 r : Tx} {acc : List Mv} (h : Gone ps r0 acc r) (h0 : movesL ps r = []) : Road ps r0 acc r := by
  have := h [] r (.stop h0)
  rw [List.append_nil] at this; exact this
def rk (sg : Tx) (r : Tx) : Nat := r.foldl (fun n c => n * 4 + (sg.idxOf c + 1)) 0
theorem rk_from (sg : Tx) : ∀ (r : Tx) (n : Nat), r.foldl (fun n c => n * 4 + (sg.idxOf c + 1)) n = n * 4 ^ r.length + rk sg r
  | [], n => by simp [rk]
  | c :: r, n => by
    have h1 := rk_from sg r (n * 4 + (sg.idxOf c + 1))
    have h2 := rk_from sg r (0 * 4 + (sg.idxOf c + 1))
    show r.foldl _ (n * 4 + (sg.idxOf c + 1)) = n * 4 ^ (r.length + 1) + r.foldl _ (0 * 4 + (sg.idxOf c + 1))
    rw [h1, h2, Nat.pow_succ, Nat.zero_mul, Nat.zero_add, Nat.add_mul, Nat.mul_assoc, Nat.mul_comm 4]
    omega
theorem rk_cons (sg : Tx) (c : Nat) (r : Tx) : rk sg (c :: r) = (sg.idxOf c + 1) * 4 ^ r.length + rk sg r := by
  show r.foldl _ (0 * 4 + (sg.idxOf c + 1)) = _
  rw [rk_from, Nat.zero_mul, Nat.zero_add]
theorem rk_lt {sg : Tx} (h3 : sg.length ≤ 3) : ∀ {r : Tx}, (∀ c ∈ r, c ∈ sg) → rk sg r < 4 ^ r.length
  | [], _ => by simp [rk]
  | c :: r, h => by
    have ih := rk_lt h3 (r := r) fun d hd => h d (List.mem_cons_of_mem _ hd)
    have hc := List.idxOf_lt_length_of_mem (h c List.mem_cons_self)
    rw [rk_cons, List.length_cons, Nat.pow_succ]
    have : (sg.idxOf c + 1) * 4 ^ r.length ≤ 3 * 4 ^ r.length := Nat.mul_le_mul_right _ (by omega)
    omega
theorem rk_ge {sg : Tx} : ∀ {r : Tx}, r ≠ [] → 4 ^ (r.length - 1) ≤ rk sg r
  | [], h => absurd rfl h
  | c :: r, _ => by
    rw [rk_cons, List.length_cons, Nat.add_sub_cancel]
    have : 1 * 4 ^ r.length ≤ (sg.idxOf c + 1) * 4 ^ r.length := Nat.mul_le_mul_right _ (by omega)
    omega
theorem idx_mono {sg : Tx} (hs : sg.Pairwise (· < ·)) {c d : Nat} (hc : c ∈ sg) (hd : d ∈ sg) (h : c < d) : sg.idxOf c < sg.idxOf d := by
  have h1 := List.idxOf_lt_length_of_mem hc
  have h2 := List.idxOf_lt_length_of_mem hd
  rcases Nat.lt_trichotomy (sg.idxOf c) (sg.idxOf d) with h' | h' | h'
  · exact h'
  · have e1 : sg[sg.idxOf c] = c := List.getElem_idxOf h1
    have e2 : sg[sg.idxOf d] = d := List.getElem_idxOf h2
    have : c = d := by
      rw [← e1, ← e2]
      congr 1
    omega
  · have := List.pairwise_iff_getElem.mp hs _ _ h2 h1 h'
    rw [List.getElem_idxOf h1, List.getElem_idxOf h2] at this
    omega
theorem rk_same {sg : Tx} (h3 : sg.length ≤ 3) (hs : sg.Pairwise (· < ·)) : ∀ {a b : Tx}, (∀ c ∈ a, c ∈ sg) → (∀ c ∈ b, c ∈ sg) → a.length = b.length → a < b → rk sg a < rk sg b
  | [], [], _, _, _, h => absurd h (by simp)
  | [], _ :: _, _, _, hl, _ => by simp at hl
  | _ :: _, [], _, _, hl, _ => by simp at hl
  | c :: a, d :: b, ha, hb, hl, h => by
    have hl' : a.length = b.length := by simpa using hl
    have la := rk_lt h3 (r := a) fun x hx => ha x (List.mem_cons_of_mem _ hx)
    rw [rk_cons, rk_cons]
    rcases List.cons_lt_cons_iff.mp h with h1 | ⟨h1, h2⟩
    · have hi := idx_mono hs (ha c List.mem_cons_self) (hb d List.mem_cons_self) h1
      have : (sg.idxOf c + 1 + 1) * 4 ^ b.length ≤ (sg.idxOf d + 1) * 4 ^ b.length := Nat.mul_le_mul_right _ (by omega)
      rw [Nat.add_mul (sg.idxOf c + 1) 1, Nat.one_mul] at this
      rw [hl'] at la ⊢
      omega
    · have := rk_same h3 hs (fun x hx => ha x (List.mem_cons_of_mem _ hx)) (fun x hx => hb x (List.mem_cons_of_mem _ hx)) hl' h2
      rw [h1, hl']
      omega
theorem rk_ord {sg : Tx} (h3 : sg.length ≤ 3) (hs : sg.Pairwise (· < ·)) {a b : Tx} (ha : ∀ c ∈ a, c ∈ sg) (hb : ∀ c ∈ b, c ∈ sg) (h : Ord a b) : rk sg a < rk sg b := by
  rcases h with h | ⟨h1, h2⟩
  · have l := rk_lt h3 ha
    have hn : b ≠ [] := fun e => by rw [e] at h; simp at h
    have g := rk_ge (sg := sg) hn
    have : 4 ^ a.length ≤ 4 ^ (b.length - 1) := Nat.pow_le_pow_right (by decide) (by omega)
    omega
  · exact rk_same h3 hs ha hb h1 h2
def Down (sg : Tx) (ps : Ps) : Prop := ∀ p ∈ ps, (∀ c ∈ p.1, c ∈ sg) ∧ (∀ c ∈ p.2, c ∈ sg) ∧ Ord p.2 p.1
theorem pre_lt : ∀ {p a b : Tx}, a < b → p ++ a < p ++ b
  | [], _, _, h => h
  | c :: p, _, _, h => List.cons_lt_cons_iff.mpr (.inr ⟨rfl, pre_lt h⟩)
theorem suf_lt : ∀ {a b x y : Tx}, a < b → a.length = b.length → a ++ x < b ++ y
  | [], [], _, _, h, _ => absurd h (by simp)
  | [], _ :: _, _, _, _, hl => by simp at hl
  | _ :: _, [], _, _, _, hl => by simp at hl
  | c :: a, d :: b, _, _, h, hl => by
    rcases List.cons_lt_cons_iff.mp h with h1 | ⟨h1, h2⟩
    · exact List.cons_lt_cons_iff.mpr (.inl h1)
    · exact List.cons_lt_cons_iff.mpr (.inr ⟨h1, suf_lt h2 (by simpa using hl)⟩)
theorem hit_form {ps : Ps} {r : Tx} {p n : Nat} (h : hit ps r p n = true) : r = r.take p ++ (ps.getD n ([], [])).1 ++ r.drop (p + (ps.getD n ([], [])).1.length) := by
  have h := of_decide_eq_true h
  conv => lhs; rw [← List.take_append_drop p r, ← List.take_append_drop (ps.getD n ([], [])).1.length (r.drop p), h, List.drop_drop]
  rw [List.append_assoc]
theorem after_ord {sg : Tx} {ps : Ps} (hd : Down sg ps) {r : Tx} {m : Mv} (hm : m ∈ movesL ps r) : Ord (afterL ps r m) r := by
  obtain ⟨h1, h2, h3⟩ := mem_moves.mp hm
  have hf := hit_form h3
  have hq : ps.getD m.2 ([], []) ∈ ps := by
    rw [List.getD_eq_getElem?_getD, List.getElem?_eq_getElem h2]; exact List.getElem_mem h2
  obtain ⟨_, _, ho⟩ := hd _ hq
  unfold afterL
  generalize ps.getD m.2 ([], []) = q at hf ho ⊢
  generalize r.drop (m.1 + q.1.length) = y at hf ⊢
  generalize r.take m.1 = x at hf ⊢
  subst hf
  rcases ho with ho | ⟨ho, hl⟩
  · exact .inl (by simp only [List.length_append]; omega)
  · refine .inr ⟨by simp only [List.length_append]; omega, ?_⟩
    rw [List.append_assoc, List.append_assoc]
    exact pre_lt (suf_lt hl ho)
theorem after_ov {sg : Tx} {ps : Ps} (hd : Down sg ps) {r : Tx} {m : Mv} (hr : ∀ c ∈ r, c ∈ sg) (h2 : m.2 < ps.length) : ∀ c ∈ afterL ps r m, c ∈ sg := fun c hc => by
  have hq : ps.getD m.2 ([], []) ∈ ps := by
    rw [List.getD_eq_getElem?_getD, List.getElem?_eq_getElem h2]; exact List.getElem_mem h2
  unfold afterL at hc
  rcases List.mem_append.mp hc with hc | hc
  · rcases List.mem_append.mp hc with hc | hc
    · exact hr c (List.mem_of_mem_take hc)
    · exact (hd _ hq).2.1 c hc
  · exact hr c (List.mem_of_mem_drop hc)
def Clean (ps : Ps) (r : Tx) (b : Nat) : Prop := ∀ p n, p < b → p < r.length → n < ps.length → hit ps r p n = false
theorem first_clean {ps : Ps} {r : Tx} {m : Mv} {t : List Mv} (h : movesL ps r = m :: t) : Clean ps r m.1 := fun p n hp hr hn => by
  cases e : hit ps r p n with
  | false => rfl
  | true =>
    exfalso
    have hs : (movesL ps r).Pairwise fun a b => a.1 ≤ b.1 := by
      unfold movesL
      rw [List.pairwise_flatMap]
      refine ⟨fun p _ => ?_, ?_⟩
      · rw [List.pairwise_map]
        exact List.Pairwise.imp (fun _ => Nat.le_refl _) (List.pairwise_of_forall (R := fun _ _ => True) fun _ _ => trivial)
      · refine List.Pairwise.imp (fun {a b} hab x hx y hy => ?_) (List.pairwise_lt_range)
        obtain ⟨_, _, rfl⟩ := List.mem_map.mp hx
        obtain ⟨_, _, rfl⟩ := List.mem_map.mp hy
        exact Nat.le_of_lt hab
    have hm : (p, n) ∈ movesL ps r := mem_moves.mpr ⟨hr, hn, e⟩
    rw [h] at hm hs
    rcases List.mem_cons.mp hm with e | hm
    · rw [← e] at hp; exact Nat.lt_irrefl _ hp
    · have := (List.pairwise_cons.mp hs).1 _ hm
      have : m.1 ≤ p := this
      omega
theorem hit_far {ps : Ps} {x y z : Tx} {p n : Nat} (h : p + (ps.getD n ([], [])).1.length ≤ x.length) : hit ps (x ++ y) p n = hit ps (x ++ z) p n := by
  unfold hit
  have e : ∀ w : Tx, ((x ++ w).drop p).take (ps.getD n ([], [])).1.length = (x.drop p).take (ps.getD n ([], [])).1.length := fun w => by
    rw [List.drop_append_of_le_length (by omega), List.take_append_of_le_length (by rw [List.length_drop]; omega)]
  rw [e, e]
theorem after_clean {ps : Ps} {r : Tx} {m : Mv} {L : Nat} (hL1 : 1 ≤ L) (hL : ∀ p ∈ ps, p.1.length ≤ L) (h2 : m.2 < ps.length) (h3 : hit ps r m.1 m.2 = true) (h1 : m.1 < r.length) (hc : Clean ps r m.1) : Clean ps (afterL ps r m) (m.1 + 1 - L) := fun p n hp hr hn => by
  have hq : ps.getD n ([], []) ∈ ps := by
    rw [List.getD_eq_getElem?_getD, List.getElem?_eq_getElem hn]; exact List.getElem_mem hn
  have hl := hL _ hq
  have ht : (r.take m.1).length = m.1 := by rw [List.length_take]; omega
  have key : hit ps (afterL ps r m) p n = hit ps r p n := by
    unfold afterL
    conv => rhs; rw [← List.take_append_drop m.1 r]
    rw [List.append_assoc]
    exact hit_far (by omega)
  rw [key]
  exact hc p n (by omega) (by omega) hn
theorem moves_from {ps : Ps} {r : Tx} {b : Nat} (hc : Clean ps r b) : movesL ps r = (List.range' b (r.length - b)).flatMap fun p => (movesAt ps r p).map fun n => (p, n) := by
  by_cases hb : b ≤ r.length
  · unfold movesL
    have e : List.range r.length = List.range b ++ List.range' b (r.length - b) := by
      have h := @List.range'_append_1 0 b (r.length - b)
      rw [Nat.zero_add, Nat.add_sub_cancel' hb] at h
      rw [List.range_eq_range', List.range_eq_range', h]
    rw [e, List.flatMap_append]
    have z : (List.range b).flatMap (fun p => (movesAt ps r p).map fun n => (p, n)) = [] := by
      rw [List.flatMap_eq_nil_iff]
      intro p hp
      rw [List.mem_range] at hp
      have : movesAt ps r p = [] := by
        unfold movesAt
        rw [List.filter_eq_nil_iff]
        intro n hn
        rw [hc p n hp (by omega) (List.mem_range.mp hn)]; decide
      rw [this]; rfl
    rw [z, List.nil_append]
  · have : r.length - b = 0 := by omega
    rw [this]
    show movesL ps r = []
    refine List.eq_nil_iff_forall_not_mem.mpr fun m hm => ?_
    obtain ⟨h1, h2, h3⟩ := mem_moves.mp hm
    rw [hc m.1 m.2 (by omega) h1 h2] at h3; cases h3
end K60
set_option maxHeartbeats 2000000
namespace Toy
open PySem L2 C8 SX LX
local macro_rules | `(tactic| walk_at "c") => `(tactic| refine And.intro (by first | (show (0 : Int) < _; omega) | exact Or.inr ⟨by decide, by decide⟩ | exact Or.inl ⟨by decide, by decide⟩ | (exact ⟨by omega, by omega⟩)) ?_)
local macro_rules | `(tactic| walk_at "s1") => `(tactic| first | refine ⟨_, rfl, ?_⟩ | refine ⟨_, _, rfl, rfl, ?_⟩ | refine .inl ⟨_, rfl, ?_⟩ | walk_at "c")
local macro_rules | `(tactic| walk_at "ix") => `(tactic| refine ⟨_, _, _, _, rfl, rfl, SqL.of (by first | assumption | exact upd_same), rfl, ?_⟩)
local macro_rules | `(tactic| walk_at "s") => `(tactic| repeat (walk_at "s1"))
theorem prD_eq (p : List Nat × List Nat) : prD p = tD [p.1, p.2] := rfl
theorem psD_eq (ps : Ps) : psD ps = ttD (ps.map fun p => [p.1, p.2]) := by
  unfold psD ttD
  rw [List.map_map]; rfl
theorem two_inj : ∀ {a b : Ps}, a.map (fun p => [p.1, p.2]) = b.map (fun p => [p.1, p.2]) → a = b
  | [], [], _ => rfl
  | [], _ :: _, h => by cases h
  | _ :: _, [], h => by cases h
  | x :: xs, y :: ys, h => by
    simp only [List.map_cons, List.cons.injEq, and_true] at h
    rw [two_inj h.2, Prod.ext h.1.1 h.1.2]
theorem eqv_ps (a b : Ps) : PyData.eqv (psD a) (psD b) = decide (a = b) := by
  rw [psD_eq, psD_eq, eqv_tt]
  exact decide_eq_decide.mpr ⟨two_inj, fun h => by rw [h]⟩
def SmallP (ps : Ps) : Prop := ∀ p ∈ ps, (∀ c ∈ p.1, c < 1114112) ∧ ∀ c ∈ p.2, c < 1114112
theorem lay_pr : ∀ {ps : Ps}, SmallP ps → PyData.canLayAll0 (ps.map prD) = true ∧ PyData.depthAll (ps.map prD) ≤ 4
  | [], _ => ⟨rfl, Nat.zero_le _⟩
  | p :: ps, h => by
    obtain ⟨h1, h2⟩ := lay_pr (ps := ps) fun q hq => h q (List.mem_cons_of_mem _ hq)
    have hp := h p List.mem_cons_self
    obtain ⟨g1, g2⟩ := lay_strs (xs := [p.1, p.2]) (fun l hl => by
      rcases List.mem_cons.mp hl with rfl | hl
      · exact hp.1
      · rw [List.mem_singleton.mp hl]; exact hp.2)
    refine ⟨?_, ?_⟩
    · show (PyData.canLay0 (prD p) && PyData.canLayAll0 (ps.map prD)) = true
      rw [h1, Bool.and_true]
      exact g1
    · show max (PyData.depth (prD p)) (PyData.depthAll (ps.map prD)) ≤ 4
      have : PyData.depth (prD p) ≤ 4 := by
        show PyData.depthAll _ + 1 ≤ 4
        have g2' : PyData.depthAll [PyData.str (S p.1), PyData.str (S p.2)] ≤ 1 := g2
        omega
      omega
theorem shaped_ps {ps : Ps} (h : SmallP ps) : SeqAt.shaped (psD ps) = true := by
  obtain ⟨h1, h2⟩ := lay_pr h
  show (PyData.canLayAll0 _ && decide (PyData.depthAll _ + 1 ≤ 64)) = true
  rw [h1, Bool.true_and, decide_eq_true_eq]; omega
section
variable {P : Program} {w : World} {K : PySem.W.Frag} {mg : Str → Option Value} {base : Heap}
abbrev s_eq : Stmt := inClass (top 13) 6
abbrev n_eq : List Str := ["self", "other"]
theorem sc_eq : FnScope n_eq ["self", "other"] (fnScope s_eq) := fnScope_by (by decide +kernel)
def spEqR (K : PySem.W.Frag) (C : Addr) : Sp := fun vs H Q _ => ∃ (a : Addr) (y : V) (sg : List Nat) (ps : Ps), vs = [.ref a, y] ∧ Rul K C H a sg ps ∧ SmallP ps ∧
  ((∃ (b : Addr) (sg2 : List Nat) (qs : Ps), y = .ref b ∧ Rul K C H b sg2 qs ∧ SmallP qs ∧ Q (.bl (decide (sg = sg2 ∧ ps = qs))) H) ∨ (∃ t : Value, TyX K H y t ∧ PySem.W.kitOne K t (.ref C) = some false ∧ Q (.bl false) H))
theorem ok_eq {C : Addr} (T : BT mg) (CH : CC K C) (insC : InsC K C) (mgC : mg "Rules" = some (.ref C)) {f : Addr} {fd : FuncData} (me : Meth K C "__eq__" f) (F : C8.Fun K "__eq__" "Rules.__eq__" s_eq f fd) (b : Binds K fd ["self", "other"] []) : Met P w K mg base 1 C "__eq__" (spEqR K C) [] := by
  refine met0 CH.cl me F b sc_eq (fun vs H Q E h => ?_) (fun cdv A outer s H vs Q E hr h => ?_)
  · obtain ⟨a, y, sg, ps, rfl, _⟩ := h; rfl
  · obtain ⟨a, y, sg, ps, rfl, ⟨dx, r, ha, hrr⟩, hs, h⟩ := h
    refine ⟨_, (pss_one (ps_ret (pe_and (pe_callB (isiK K) (by rfl) T.m_isinstance PyProof.Rows.boot_isinstance (pa_cons (pv 1) (pa_cons (pe_glob (v := .ref C) (by rfl) mgC rfl) pa_nil))) (pe_and (pe_cmpR op_eq (fldK K (pv 0) rfl) (fldK K (pv 1) rfl) (nomark _)) (pe_one (pe_cmpR (op_eqDK K hr) (fldK K (pv 0) rfl) (fldK K (pv 1) rfl) (nomark _))))))
      ), ?_⟩
    rcases h with ⟨b, sg2, qs, rfl, ⟨dy, t, hb, htt⟩, hs2, q⟩ | ⟨t, ty, hk, q⟩
    · refine ⟨_, rfl, _, _, _, _, true, rfl, .own C, .base (.ins hb insC.cl insC.ha insC.hn insC.htk insC.hm), insC.me, true, rfl, iteT ?_⟩
      refine ⟨_, rfl, a, C, dx, _, _, rfl, ha, CH.cl, CH.nS, ruF_signs _ _, _, rfl, b, C, dy, _, _, rfl, hb, CH.cl, CH.nS, ruF_signs _ _, ?_⟩
      refine ⟨rfl, _, rfl, ?_⟩
      by_cases es : sg = sg2
      · subst es
        refine iteB (decide_eq_true rfl) ?_
        refine ⟨_, rfl, a, C, dx, _, _, rfl, ha, CH.cl, CH.nP, ruF_pairs _ _, _, rfl, b, C, dy, _, _, rfl, hb, CH.cl, CH.nP, ruF_pairs _ _, ?_⟩
        refine ⟨_, _, hrr, htt, shaped_ps hs, shaped_ps hs2, ?_⟩
        rw [eqv_ps]
        have e : decide (sg = sg ∧ ps = qs) = decide (ps = qs) := decide_eq_decide.mpr ⟨fun h => h.2, fun h => ⟨rfl, h⟩⟩
        rw [e] at q
        exact q
      · refine iteN (decide_eq_false fun h => es (by simpa [S] using V.str.inj h)) ?_
        have e : decide (sg = sg2 ∧ ps = qs) = false := decide_eq_false fun h => es h.1
        rw [e] at q
        exact q
    · exact ⟨_, rfl, _, _, _, _, false, rfl, .own C, ty, hk, false, rfl, iteN rfl q⟩
end
end Toy
set_option maxHeartbeats 4000000
namespace LX
open PySem PySem.Spec PyProof.Rows L2 C8 SX
theorem yesT {p q : Hp → Prop} {σ : L2.St} {H : Hp} (h : p H) : tYes σ H fun b H3 => if b = true then p H3 else q H3 := h
theorem li_it {J1 : It} {n : Nat} {G : Hp → Prop} {Y : Nat → Hp → V → Hp → Prop} (w : Walk J1 n G Y) {g1 : TG} {tt1 : TT} {te : TE} {vs1 : List Nat} {σ2 : L2.St} {H4 : Hp} {D : Addr} {Nx : Hp → Prop} (Pv : Nat → Hp → Prop) (h0 : Pv 0 H4) (hG : ∀ i H, i ≤ n → Pv i H → G H)
    (hs : ∀ j x H H', j < n → Pv j H → Y j H x H' → g1 x (wipe σ2 vs1) H' fun σ3 H5 => wipe σ3 vs1 = wipe σ2 vs1 ∧ tt1 σ3 H5 fun b H6 => if b = true then te σ3 H6 fun y H7 => ∃ acc, H7 D = some (.lst acc) ∧ acc.length < sizeLine ∧ Pv (j + 1) (upd H7 D (.lst (acc ++ [y]))) else Pv (j + 1) H6)
    (hd : ∀ H, Pv n H → Nx H) :
    ∃ W1 : Nat → Nat → Hp → Prop, (∃ m, W1 0 m H4) ∧ ∀ j k H, W1 j k H →
      (J1.stop j H ∧ Nx H) ∨ (J1.go j H ∧ ∃ Nx1 : Hp → Prop, (∀ H', Nx1 H' → ∃ k', k' < k ∧ W1 (j + 1) k' H') ∧ ∀ x H', J1.yld j H x H' → g1 x (wipe σ2 vs1) H' fun σ3 H5 => wipe σ3 vs1 = wipe σ2 vs1 ∧ tt1 σ3 H5 fun b H6 =>
        if b = true then te σ3 H6 fun y H7 => ∃ acc, H7 D = some (.lst acc) ∧ acc.length < sizeLine ∧ Nx1 (upd H7 D (.lst (acc ++ [y]))) else Nx1 H6) := by
  refine ⟨fun i m H => m = n - i ∧ i ≤ n ∧ Pv i H, ⟨n, by simp, Nat.zero_le _, h0⟩, ?_⟩
  rintro i m H ⟨rfl, hi, p⟩
  have q := hG i H hi p
  by_cases hlt : i < n
  · exact .inr ⟨w.goes i H hlt q, Pv (i + 1), fun H' p' => ⟨n - (i + 1), by omega, rfl, hlt, p'⟩, fun x H' y => hs i x H H' hlt p (w.yields i H x H' hlt q y)⟩
  · have e : i = n := by omega
    subst e
    exact .inl ⟨w.stops H q, hd H p⟩
theorem lc2_it {J : It} {n : Nat} {G : Hp → Prop} {Y : Nat → Hp → V → Hp → Prop} (w : Walk J n G Y) {g : TG} {tt : TT} {wi1 : TI} {g1 : TG} {tt1 : TT} {te : TE} {vs vs1 : List Nat} {σ : L2.St} {H1 : Hp} {D : Addr} {Qd : Hp → Prop} (Pv : Nat → Hp → Prop) (h0 : Pv 0 (upd H1 D (.lst []))) (hG : ∀ i H, i ≤ n → Pv i H → G H)
    (hs : ∀ i x H H', i < n → Pv i H → Y i H x H' → g x (wipe σ vs) H' fun σ2 H2 => wipe σ2 vs = wipe σ vs ∧ tt σ2 H2 fun b H3 =>
      if b = true then wi1 σ2 H3 fun J1 H4 => ∃ W1 : Nat → Nat → Hp → Prop, (∃ m, W1 0 m H4) ∧ ∀ j k H, W1 j k H →
        (J1.stop j H ∧ Pv (i + 1) H) ∨ (J1.go j H ∧ ∃ Nx1 : Hp → Prop, (∀ H', Nx1 H' → ∃ k', k' < k ∧ W1 (j + 1) k' H') ∧ ∀ x H', J1.yld j H x H' → g1 x (wipe σ2 vs1) H' fun σ3 H5 => wipe σ3 vs1 = wipe σ2 vs1 ∧ tt1 σ3 H5 fun b H6 =>
          if b = true then te σ3 H6 fun y H7 => ∃ acc, H7 D = some (.lst acc) ∧ acc.length < sizeLine ∧ Nx1 (upd H7 D (.lst (acc ++ [y]))) else Nx1 H6)
      else Pv (i + 1) H3) (hd : ∀ H, Pv n H → Qd H) :
    ∃ W : Nat → Nat → Hp → Prop, (∃ m, W 0 m (upd H1 D (.lst []))) ∧ ∀ i m H, W i m H →
      (J.stop i H ∧ Qd H) ∨ (J.go i H ∧ ∃ Nx : Hp → Prop, (∀ H', Nx H' → ∃ m', m' < m ∧ W (i + 1) m' H') ∧ ∀ x H', J.yld i H x H' → g x (wipe σ vs) H' fun σ2 H2 => wipe σ2 vs = wipe σ vs ∧ tt σ2 H2 fun b H3 =>
        if b = true then wi1 σ2 H3 fun J1 H4 => ∃ W1 : Nat → Nat → Hp → Prop, (∃ m, W1 0 m H4) ∧ ∀ j k H, W1 j k H →
          (J1.stop j H ∧ Nx H) ∨ (J1.go j H ∧ ∃ Nx1 : Hp → Prop, (∀ H', Nx1 H' → ∃ k', k' < k ∧ W1 (j + 1) k' H') ∧ ∀ x H', J1.yld j H x H' → g1 x (wipe σ2 vs1) H' fun σ3 H5 => wipe σ3 vs1 = wipe σ2 vs1 ∧ tt1 σ3 H5 fun b H6 =>
            if b = true then te σ3 H6 fun y H7 => ∃ acc, H7 D = some (.lst acc) ∧ acc.length < sizeLine ∧ Nx1 (upd H7 D (.lst (acc ++ [y]))) else Nx1 H6)
        else Nx H3) := by
  refine ⟨fun i m H => m = n - i ∧ i ≤ n ∧ Pv i H, ⟨n, by simp, Nat.zero_le _, h0⟩, ?_⟩
  rintro i m H ⟨rfl, hi, p⟩
  have q := hG i H hi p
  by_cases hlt : i < n
  · exact .inr ⟨w.goes i H hlt q, Pv (i + 1), fun H' p' => ⟨n - (i + 1), by omega, rfl, hlt, p'⟩, fun x H' y => hs i x H H' hlt p (w.yields i H x H' hlt q y)⟩
  · have e : i = n := by omega
    subst e
    exact .inl ⟨w.stops H q, hd H p⟩
end LX
set_option maxHeartbeats 2000000
namespace LX
open PySem PySem.Spec PyProof.Rows L2 C8 SX
theorem starts_pre (r b : List Nat) : Txt.startswith (S r) (S b) = decide (r.take b.length = b) := by
  unfold Txt.startswith
  rw [PySem.StrLaws.subAt_eq]
  have e1 : (S r).cps.toList = r := by simp [S]
  have e2 : (S b).cps.toList = b := by simp [S]
  rw [e1, e2, S_len, S_len, List.drop_zero]
  by_cases h : r.take b.length = b
  · have hl := congrArg List.length h
    rw [List.length_take] at hl
    rw [h, beq_self_eq_true, Bool.and_true, decide_eq_true (p := (0 + b.length ≤ r.length)) (by omega)]
    simp
  · have : (r.take b.length == b) = false := by simpa using h
    rw [this, Bool.and_false, decide_eq_false h]
theorem cutb_from (r b : List Nat) : Txt.slice (S r) (some ((S b).length : Int)) none = S (r.drop b.length) := by
  rw [slice_from (by omega), S_len]; rfl
theorem cutb_to (r b : List Nat) : Txt.slice (S r) none (some ((S b).length : Int)) = S (r.take b.length) := by
  rw [slice_to (by omega), S_len]; rfl
theorem S_iff {a b : List Nat} : V.str (S a) = V.str (S b) ↔ a = b := ⟨fun h => by simpa [S] using V.str.inj h, fun h => by rw [h]⟩
end LX
set_option maxHeartbeats 4000000
namespace LX
open PySem PySem.Spec PyProof.Rows L2 C8 SX
section
variable {X : Cx}
theorem count_flat {y : V} {u : Value} (fy : flatV y = true) (ry : RelV y u) : ∀ {ys : List V} {us : List Value}, Vals ys us → ys.all flatV = true → us.countP (eqU y) = ys.countP fun z => eqV z y
  | _, _, .nil, _ => rfl
  | z :: zs, w :: ws, .cons h r, f => by
    rw [List.all_cons, Bool.and_eq_true] at f
    rw [List.countP_cons, List.countP_cons, count_flat fy ry r f.2, eqU_of h f.1]
def rCntF (K : PySem.W.Frag) : V → List V → Hp → VK → Prop := fun x xs H Q => ∃ (a : Addr) (ys : List V) (y : V), x = .ref a ∧ xs = [y] ∧ SqL K H a ys ∧ flatV y = true ∧ ys.all flatV = true ∧ Q (.int (ys.countP fun z => eqV z y : Nat)) H
theorem mt_countF : MtR X "list.count" (rCntF X.K) := by
  intro pins s σ H x xs v us Q I rx rxs h
  obtain ⟨a, ys, y, rfl, rfl, hs, fy, fys, q⟩ := h
  cases rx
  cases rxs with
  | cons ry rt =>
    rename_i uy ut
    cases rt
    obtain ⟨its, rv, ⟨⟨cls, dd, data, sl⟩, n, ho, hc, hdn, hd⟩, hlen⟩ := I.list hs
    simp only at hc hd
    subst hc hd
    refine call_meets PySem.F.slot_list_count ⟨_, ho, rfl⟩ PySem.F.entry_list_count (PySem.F.args_list_count_2 _ _)
      (SeqAt.list_countAt a its.toArray n dd sl uy (eqU y)) ⟨ho, fun u' hu' => mem_eqAt ry fy rv fys u' (by simpa using hu'), ?_⟩
    have ec : its.toArray.toList.countP (eqU y) = ys.countP fun z => eqV z y := count_flat fy ry rv fys
    refine ⟨.int (ys.countP fun z => eqV z y : Nat), H, I.tok _, ⟨s.toks, ?_⟩, q⟩
    show Value.int ((its.toArray.toList.countP (eqU y) : Nat) : Int) s.toks = Value.int ((ys.countP fun z => eqV z y : Nat) : Int) s.toks
    rw [ec]
theorem pe_bmK {T name id : String} {r : V → List V → Hp → VK → Prop} {o e : Expr} {es : List Expr} {to : TE} {t : TA} {apos cpos : Pos} (K : PySem.W.Frag) (pa : PlainAttrs T) (slot : Slot T name id) (hty : typeOf (.builtin id) = pure (.type "method_descriptor")) (hm : MtR X id r) (ho : PE X o to) (ha : PA X (e :: es) t)
    (hK : X.K = K := by rfl) (hbase : attributeBase o name X.env (eval o X.env) = eval o X.env := by rfl)
    (hfew : ((backTo cpos (starEach (e :: es) X.env)).all (fun x => !x.1) && (backToKw cpos (keywordEach [] X.env)).all (fun x => x.1.isSome)
      && decide ((e :: es).length + ([] : List Keyword).length + (if ([] : List Keyword).isEmpty then 0 else 1) < 30)) = true := by rfl)
    (hline : (apos.endLine == cpos.line) = true := by rfl) (hs : starEach (e :: es) X.env = (false, eval e X.env) :: starEach es X.env := by rfl) (hplain : (backTo cpos (starEach es X.env)).any (·.1) = false := by rfl) :
    PE X (.Call (.Attribute o name apos) (e :: es) [] cpos) (tBM K T r to t) := by
  subst hK; exact pe_bm pa slot hty hm ho ha hbase hfew hline hs hplain
theorem mt_countFK (K : PySem.W.Frag) (h : X.K = K := by rfl) : MtR X "list.count" (rCntF K) := by subst h; exact mt_countF
theorem mt_indexFK (K : PySem.W.Frag) (h : X.K = K := by rfl) : MtR X "list.index" (rIndex K) := by subst h; exact mt_index
end
end LX
set_option maxHeartbeats 2000000
namespace Toy
open PySem L2 C8 SX LX
local macro_rules | `(tactic| walk_at "c") => `(tactic| refine And.intro (by first | (show (0 : Int) < _; omega) | exact Or.inr ⟨by decide, by decide⟩ | exact Or.inl ⟨by decide, by decide⟩ | (exact ⟨by omega, by omega⟩)) ?_)
local macro_rules | `(tactic| walk_at "s1") => `(tactic| first | refine ⟨_, rfl, ?_⟩ | refine ⟨_, _, rfl, rfl, ?_⟩ | refine .inl ⟨_, rfl, ?_⟩ | walk_at "c")
local macro_rules | `(tactic| walk_at "ix") => `(tactic| refine ⟨_, _, _, _, rfl, rfl, SqL.of (by first | assumption | exact upd_same), rfl, ?_⟩)
local macro_rules | `(tactic| walk_at "s") => `(tactic| repeat (walk_at "s1"))
theorem pr_snoc {α β : Type} {F : α → β → Prop} : ∀ {as : List α} {bs : List β} {a : α} {b : β}, Paired F as bs → F a b → Paired F (as ++ [a]) (bs ++ [b])
  | _, _, _, _, .nil, h => .cons h .nil
  | _, _, _, _, .cons h1 h2, h => .cons h1 (pr_snoc h2 h)
theorem pr_imp {α β : Type} {F G : α → β → Prop} (k : ∀ a b, F a b → G a b) : ∀ {as : List α} {bs : List β}, Paired F as bs → Paired G as bs
  | _, _, .nil => .nil
  | _, _, .cons h1 h2 => .cons (k _ _ h1) (pr_imp k h2)
def mvD (m : Nat × Nat) : PyData := .tuple [.int (m.1 : Nat), .int (m.2 : Nat)]
def mvsD (l : List (Nat × Nat)) : PyData := .tuple (l.map mvD)
def MvAt (H : Hp) (qs : List Addr) (l : List (Nat × Nat)) : Prop := Paired (fun q m => H q = some (.tup [.int (m.1 : Nat), .int (m.2 : Nat)])) qs l
theorem MvAt.same {H H' : Hp} {qs : List Addr} {l : List (Nat × Nat)} (s : Same H H') (h : MvAt H qs l) : MvAt H' qs l := pr_imp (fun _ _ e => s _ _ e) h
theorem MvAt.put {H : Hp} {D : Addr} {acc : List V} {o : HO} {qs : List Addr} {l : List (Nat × Nat)} (hD : H D = some (.lst acc)) (h : MvAt H qs l) : MvAt (upd H D o) qs l := pr_imp (fun _ _ e => by rw [upd_ne (fun z => by rw [z, hD] at e; cases e)]; exact e) h
theorem MvAt.dp {K : PySem.W.Frag} {H : Hp} : ∀ {qs : List Addr} {l : List (Nat × Nat)}, MvAt H qs l → DpAll K H (qs.map V.ref) (l.map mvD)
  | _, _, .nil => .nil
  | _, _, .cons h1 h2 => .cons (.tup (SqT.of h1) (.cons (.int _) (.cons (.int _) .nil))) (MvAt.dp h2)
theorem MvAt.len {H : Hp} : ∀ {qs : List Addr} {l : List (Nat × Nat)}, MvAt H qs l → qs.length = l.length
  | _, _, .nil => rfl
  | _, _, .cons _ h2 => by rw [List.length_cons, List.length_cons, MvAt.len h2]
theorem flat_len {α β : Type} {f : α → List β} {c : Nat} : ∀ {l : List α}, (∀ x ∈ l, (f x).length ≤ c) → (l.flatMap f).length ≤ l.length * c
  | [], _ => by simp
  | x :: l, h => by
    have h1 := h x List.mem_cons_self
    have h2 := flat_len (l := l) fun y hy => h y (List.mem_cons_of_mem _ hy)
    rw [List.flatMap_cons, List.length_append, List.length_cons, Nat.add_mul]; omega
theorem starts3 {r b : List Nat} {p : Nat} (hp : p ≤ r.length) : Txt.startswith3 (S r) (S b) (p : Nat) = decide ((r.drop p).take b.length = b) := by
  unfold Txt.startswith3
  have ef : fromIndex (S r).length (p : Nat) = p := by unfold fromIndex; rw [if_neg (by omega)]; omega
  rw [ef, PySem.StrLaws.subAt_eq]
  have e1 : (S r).cps.toList = r := by simp [S]
  have e2 : (S b).cps.toList = b := by simp [S]
  rw [e1, e2, S_len, S_len]
  by_cases h : (r.drop p).take b.length = b
  · have hl := congrArg List.length h
    rw [List.length_take, List.length_drop] at hl
    rw [h, beq_self_eq_true, Bool.and_true, decide_eq_true (p := (p + b.length ≤ r.length)) (by omega)]
    simp
  · have : ((r.drop p).take b.length == b) = false := by simpa using h
    rw [this, Bool.and_false, decide_eq_false h]
structure Gr (sg : List Nat) (ps : Ps) : Prop where
  mn : sg.length ≤ 3
  asc : sg.Pairwise (· < ·)
  sm : ∀ c ∈ sg, c < 1114112
  few : ps.length ≤ 20
  dn : Down sg ps
  short : ∀ p ∈ ps, p.1.length ≤ 40
theorem movesAt_len (ps : Ps) (r : List Nat) (p : Nat) : (K60.movesAt ps r p).length ≤ ps.length := by
  unfold K60.movesAt
  have := List.length_filter_le (fun n => K60.hit ps r p n) (List.range ps.length)
  rw [List.length_range] at this; exact this
section
variable {P : Program} {w : World} {K : PySem.W.Frag} {mg : Str → Option Value} {base : Heap}
abbrev s_moves : Stmt := inClass (top 13) 1
abbrev n_moves : List Str := ["self", "row", "place", "number", "left", "_"]
theorem sc_moves : FnScope n_moves ["self", "row"] (fnScope s_moves) := fnScope_by (by decide +kernel)
def spMoves (K : PySem.W.Frag) (C : Addr) : Sp := fun vs H Q _ => ∃ (a : Addr) (sg : List Nat) (ps : Ps) (row : List Nat), vs = [.ref a, .str (S row)] ∧ Rul K C H a sg ps ∧ Gr sg ps ∧ row.length ≤ 40 ∧
  ∀ (p : Addr) (H' : Hp), Same H H' → Dp K H' (.ref p) (mvsD (K60.movesL ps row)) → Q (.ref p) H'
theorem fn_moves {C : Addr} (T : BT mg) (CH : CC K C) {f : Addr} {fd : FuncData} (F : C8.Fun K "moves" "Rules.moves" s_moves f fd) : FnOk P w K mg base C8.CX0 1 f fd ["self", "row"] (spMoves K C) := by
  refine fn0 F sc_moves (fun vs H Q E h => ?_) (fun cdv A outer s H vs Q E hr h => ?_)
  · obtain ⟨a, sg, ps, row, rfl, _⟩ := h; rfl
  · obtain ⟨a, sg, ps, row, rfl, hc, g, hrow, k⟩ := h
    obtain ⟨dx, r, ha, hdp⟩ := id hc
    obtain ⟨_, xs, e, hq, hxs⟩ := dp_seq (b := false) hdp
    cases e
    have hq : SqT K H r xs := hq
    have hxl := dpa_len hxs
    rw [List.length_map] at hxl
    have hfew := g.few
    refine ⟨_, (pss_one (ps_ret (pe_callTy (tupleK K) (by rfl) T.m_tuple PyProof.Rows.boot_tuple (pa_cons (pe_lc2 (own := [("place", 2), ("number", 3), ("left", 4), ("_", 5)]) (vs1 := [3, 4, 5]) rfl sc_moves.nd (pi_range1 (by rfl) T.m_range (pa_cons (pe_callB call_len_str (by rfl) T.m_len PySem.boot_len (pa_cons (pv 1) pa_nil)) pa_nil)) (blkOk_by (N := n_moves) (sc := fnScope s_moves) (by decide +kernel)) (by decide) (fun _ _ _ _ _ => (pg_name (i := 2) sc_moves.nd rfl (.inl rfl))) (fun _ _ _ _ _ => pts_nil) (fun _ _ _ _ _ => (pi_enumXK K (by rfl) T.m_enumerate (pa_cons (fldK K (pv 0) rfl) pa_nil))) (fun _ _ _ _ _ => (tupK K 2 (pgs_cons (pg_name (i := 3) sc_moves.nd rfl (.inl rfl)) (pgs_cons (tupK K 2 (pgs_cons (pg_name (i := 4) sc_moves.nd rfl (.inl rfl)) (pgs_cons (pg_name (i := 5) sc_moves.nd rfl (.inl rfl)) pgs_nil))) pgs_nil)))) (fun _ _ _ _ _ => pts_one (pt_val (pe_bmK K PySem.F.plainAttrs_str PySem.F.slot_str_startswith PySem.F.type_str_startswith mt_startswith3 (pv 1) (pa_cons (pv 4) (pa_cons (pv 2) pa_nil))))) (fun _ _ _ _ _ => (pe_tup (pa_cons (pv 2) (pa_cons (pv 3) pa_nil))))) pa_nil)))
      ), ?_⟩
    refine ⟨_, rfl, S row, rfl, by rw [S_len]; exact sz hrow (by decide), ?_⟩
    rw [S_len]
    refine ⟨_, rfl, by omega, by omega, fun D hD => ?_⟩
    refine lc2_it (walk_range (lo := 0) (n := ((row.length : Nat) : Int).toNat)) (fun i H' => ∃ qs : List Addr, Same H H' ∧ H' D = some (.lst (qs.map V.ref)) ∧ MvAt H' qs ((List.range i).flatMap fun p => (K60.movesAt ps row p).map fun n => (p, n)))
      ⟨[], sm_new hD, upd_same, .nil⟩ (fun _ _ _ _ => trivial) (fun i x H2 H2' hi ⟨qs, s2, e2, m2⟩ hy => ?_) (fun H2 ⟨qs, s2, e2, m2⟩ => ?_)
    · obtain ⟨rfl, rfl⟩ := hy
      have hi' : i < row.length := by omega
      refine ⟨rfl, yesT ?_⟩
      refine ⟨_, rfl, a, C, dx, _, _, rfl, s2 _ _ ha, CH.cl, CH.nP, ruF_pairs _ _, .ref r, .tup r, rfl, rfl, ⟨_, sm_seqT s2 hq⟩, ?_⟩
      refine li_it (walk_enumX (K := K) (S := .tup r) (xs := xs)) (fun j H' => ∃ qs : List Addr, Same H H' ∧ H' D = some (.lst (qs.map V.ref)) ∧ MvAt H' qs (((List.range i).flatMap fun p => (K60.movesAt ps row p).map fun n => (p, n)) ++ (((List.range j).filter fun n => K60.hit ps row i n).map fun n => (i, n))))
        ⟨qs, s2, e2, by simpa using m2⟩ (fun j H' _ ⟨_, s, _⟩ => sm_seqT s hq) (fun j y H3 H3' hj ⟨qs, s3, e3, m3⟩ hy => ?_) (fun H3 ⟨qs, s3, e3, m3⟩ => ?_)
      · obtain ⟨t, y1, y2, rfl, ht, rfl, f1, f2⟩ := hy
        obtain rfl : V.int (j : Nat) = y1 := Option.some.inj f1
        obtain ⟨d, g2, hd2⟩ := dpa_at hxs j y2 f2
        rw [List.getElem?_map] at g2
        cases hp : ps[j]? with
        | none => rw [hp] at g2; cases g2
        | some pr =>
        rw [hp] at g2
        obtain rfl := Option.some.inj g2
        obtain ⟨qa, rfl, hqa⟩ := dp_pr (dp_same s3 _ _ hd2)
        have sT : Same H3 (upd H3 t (.tup [.int (j : Nat), .ref qa])) := sm_new ht
        have hgd : ps.getD j ([], []) = pr := by rw [List.getD_eq_getElem?_getD, hp]; rfl
        have hsh := g.short pr (List.mem_of_getElem? hp)
        refine ⟨t, _, rfl, .inl (.inl upd_same), rfl, _, _, rfl, _, _, rfl, qa, _, rfl, sm_seqT sT hqa, rfl, _, _, rfl, _, _, rfl, rfl, rfl, rfl, ?_⟩
        refine ⟨_, rfl, rfl, _, rfl, _, rfl, _, _, _, rfl, rfl, _, rfl, ?_⟩
        rw [Int.zero_add, starts3 (Nat.le_of_lt hi')]
        have eh : K60.hit ps row i j = decide ((row.drop i).take pr.1.length = pr.1) := by unfold K60.hit; rw [hgd]
        rw [← eh]
        have e3' := sT _ _ e3
        have m3' := m3.same sT
        have s3' := s3.trans sT
        have hml : (((List.range i).flatMap fun p => (K60.movesAt ps row p).map fun n => (p, n)) ++ (((List.range j).filter fun n => K60.hit ps row i n).map fun n => (i, n))).length ≤ 41 * 20 := by
          have h1 := flat_len (c := 20) (l := List.range i) (f := fun p => (K60.movesAt ps row p).map fun n => (p, n)) fun p _ => by rw [List.length_map]; exact Nat.le_trans (movesAt_len ps row p) hfew
          have h2 := List.length_filter_le (fun n => K60.hit ps row i n) (List.range j)
          rw [List.length_range] at h1 h2
          rw [List.length_append, List.length_map]
          have : i * 20 ≤ 40 * 20 := Nat.mul_le_mul_right _ (by omega)
          omega
        generalize upd H3 t (.tup [.int (j : Nat), .ref qa]) = H4 at e3' m3' s3' ⊢
        have eT : K60.hit ps row i j = true → ((List.range (j + 1)).filter fun n => K60.hit ps row i n).map (fun n => (i, n)) = (((List.range j).filter fun n => K60.hit ps row i n).map fun n => (i, n)) ++ [(i, j)] := fun hh => by
          rw [List.range_succ, List.filter_append, List.map_append, List.filter_cons_of_pos hh]; rfl
        have eF : K60.hit ps row i j = false → ((List.range (j + 1)).filter fun n => K60.hit ps row i n).map (fun n => (i, n)) = (((List.range j).filter fun n => K60.hit ps row i n).map fun n => (i, n)) := fun hh => by
          rw [List.range_succ, List.filter_append, List.map_append, List.filter_cons_of_neg (by rw [hh]; decide)]
          exact List.append_nil _
        cases hh : K60.hit ps row i j with
        | true =>
          rw [eT hh, ← List.append_assoc]
          refine iteB rfl ?_
          refine ⟨_, rfl, _, rfl, by show 2 ≤ sizeLine; decide, fun u hu => ?_⟩
          have su := sm_new (o := .tup [.int (0 + (i : Int)), .int (j : Nat)]) hu
          refine ⟨_, su _ _ e3', ?_, qs ++ [u], sm_put (s3'.trans su) hD, ?_, ?_⟩
          · rw [List.length_map, m3.len]
            exact Nat.lt_of_le_of_lt hml (by decide)
          · rw [upd_same, List.map_append]; rfl
          · refine MvAt.put (su _ _ e3') (pr_snoc (m3'.same su) ?_)
            rw [upd_same]
            show some (HO.tup [V.int (0 + (i : Int)), V.int (j : Nat)]) = some (HO.tup [V.int (i : Nat), V.int (j : Nat)])
            rw [Int.zero_add]
        | false =>
          rw [eF hh]
          exact iteN rfl ⟨qs, s3', e3', m3'⟩
      · refine ⟨qs, s3, e3, ?_⟩
        rw [List.range_succ, List.flatMap_append, List.flatMap_singleton]
        rw [hxl] at m3
        exact m3
    · have en : ((row.length : Nat) : Int).toNat = row.length := by omega
      rw [en] at m2
      refine ⟨D, _, rfl, .inl ⟨SqL.of e2, fun u hu => ?_⟩⟩
      exact k u _ (s2.trans (sm_new hu)) (.tup (SqT.of upd_same) (m2.same (sm_new hu)).dp)
theorem ok_moves {C : Addr} (T : BT mg) (CH : CC K C) {f : Addr} {fd : FuncData} (me : Meth K C "moves" f) (F : C8.Fun K "moves" "Rules.moves" s_moves f fd) (b : Binds K fd ["self", "row"] []) : Met P w K mg base 1 C "moves" (spMoves K C) [] := ⟨⟨f, fd, _, [], CH.cl, me, fn_moves T CH F, b, .nil⟩⟩
end
end Toy
set_option maxHeartbeats 2000000
namespace Toy
open PySem L2 C8 SX LX
local macro_rules | `(tactic| walk_at "c") => `(tactic| refine And.intro (by first | (show (0 : Int) < _; omega) | exact Or.inr ⟨by decide, by decide⟩ | exact Or.inl ⟨by decide, by decide⟩ | (exact ⟨by omega, by omega⟩)) ?_)
local macro_rules | `(tactic| walk_at "s1") => `(tactic| first | refine ⟨_, rfl, ?_⟩ | refine ⟨_, _, rfl, rfl, ?_⟩ | refine .inl ⟨_, rfl, ?_⟩ | walk_at "c")
local macro_rules | `(tactic| walk_at "ix") => `(tactic| refine ⟨_, _, _, _, rfl, rfl, SqL.of (by first | assumption | exact upd_same), rfl, ?_⟩)
local macro_rules | `(tactic| walk_at "s") => `(tactic| repeat (walk_at "s1"))
theorem cutn_from (r : List Nat) (n : Nat) : Txt.slice (S r) (some (n : Int)) none = S (r.drop n) := by
  rw [slice_from (by omega)]; rfl
theorem cutn_to (r : List Nat) (n : Nat) : Txt.slice (S r) none (some (n : Int)) = S (r.take n) := by
  rw [slice_to (by omega)]; rfl
section
variable {P : Program} {w : World} {K : PySem.W.Frag} {mg : Str → Option Value} {base : Heap}
theorem pairs_at {H : Hp} {r : Addr} {ps : Ps} (h : Dp K H (.ref r) (psD ps)) : ∃ xs, SqT K H r xs ∧ xs.length = ps.length ∧ ∀ (n : Nat), n < ps.length → ∃ q, xs[n]? = some (.ref q) ∧ SqT K H q [.str (S (ps.getD n ([], [])).1), .str (S (ps.getD n ([], [])).2)] := by
  obtain ⟨_, xs, e, hq, hxs⟩ := dp_seq (b := false) h
  cases e
  have hl := dpa_len hxs
  rw [List.length_map] at hl
  refine ⟨xs, hq, hl, fun n hn => ?_⟩
  have hx : xs[n]? = some xs[n] := List.getElem?_eq_getElem (by omega)
  obtain ⟨d, g2, hd2⟩ := dpa_at hxs n _ hx
  have hp : ps[n]? = some (ps.getD n ([], [])) := by rw [List.getD_eq_getElem?_getD, List.getElem?_eq_getElem hn]; rfl
  rw [List.getElem?_map, hp] at g2
  obtain rfl := Option.some.inj g2
  obtain ⟨qa, e, hqa⟩ := dp_pr hd2
  exact ⟨qa, by rw [hx, e], hqa⟩
abbrev s_after : Stmt := inClass (top 13) 2
abbrev n_after : List Str := ["self", "row", "move", "place", "number", "left", "right"]
theorem sc_after : FnScope n_after ["self", "row", "move"] (fnScope s_after) := fnScope_by (by decide +kernel)
def spAfter (K : PySem.W.Frag) (C : Addr) : Sp := fun vs H Q _ => ∃ (a mm : Addr) (sg : List Nat) (ps : Ps) (row : List Nat) (m : Nat × Nat), vs = [.ref a, .str (S row), .ref mm] ∧ Rul K C H a sg ps ∧ Gr sg ps ∧ (∀ p ∈ ps, p.2.length ≤ 40) ∧ row.length ≤ 40 ∧ SqT K H mm [.int (m.1 : Nat), .int (m.2 : Nat)] ∧ m.1 ≤ row.length ∧ m.2 < ps.length ∧
  ∀ H', Same H H' → Q (.str (S (K60.afterL ps row m))) H'
theorem fn_after {C : Addr} (T : BT mg) (CH : CC K C) {f : Addr} {fd : FuncData} (F : C8.Fun K "after" "Rules.after" s_after f fd) : FnOk P w K mg base C8.CX0 1 f fd ["self", "row", "move"] (spAfter K C) := by
  refine fn0 F sc_after (fun vs H Q E h => ?_) (fun cdv A outer s H vs Q E hr h => ?_)
  · obtain ⟨a, mm, sg, ps, row, m, rfl, _⟩ := h; rfl
  · obtain ⟨a, mm, sg, ps, row, m, rfl, hc, g, hsh2, hrow, hm, h1, h2, k⟩ := h
    obtain ⟨dx, r, ha, hdp⟩ := id hc
    obtain ⟨xs, hq, hxl, hat⟩ := pairs_at hdp
    obtain ⟨q, hxq, hqq⟩ := hat m.2 h2
    have hpm : ps.getD m.2 ([], []) ∈ ps := by rw [List.getD_eq_getElem?_getD, List.getElem?_eq_getElem h2]; exact List.getElem_mem h2
    have l1 := g.short _ hpm
    have l2 := hsh2 _ hpm
    have br : (S row).length ≤ sizeLine := by rw [S_len]; exact sz hrow (by decide)
    refine ⟨_, (pss_cons (ps_asg (pv 2) (tupK K 2 (pgs_cons (pg_name (i := 3) sc_after.nd rfl (.inl rfl)) (pgs_cons (pg_name (i := 4) sc_after.nd rfl (.inl rfl)) pgs_nil))))
      (pss_cons (ps_asg (pe_ix (ixt K) (fldK K (pv 0) rfl) (pv 4) (fun _ _ => rfl)) (tupK K 2 (pgs_cons (pg_name (i := 5) sc_after.nd rfl (.inl rfl)) (pgs_cons (pg_name (i := 6) sc_after.nd rfl (.inl rfl)) pgs_nil))))
      (pss_one (ps_ret (pe_op op_add_str (pe_op op_add_str (pe_slice sl_txt (pv 1) po_none (po_some (pv 3))) (pv 6)) (pe_slice sl_txt (pv 1) (po_some (pe_op op_add (pv 3) (pe_callB call_len_str (by rfl) T.m_len PySem.boot_len (pa_cons (pv 5) pa_nil)))) po_none)))
      ))), ?_⟩
    refine ⟨_, rfl, mm, _, rfl, hm, rfl, _, _, rfl, _, _, rfl, rfl, ?_⟩
    refine ⟨_, rfl, a, C, dx, _, _, rfl, ha, CH.cl, CH.nP, ruF_pairs _ _, _, rfl, r, xs, (m.2 : Nat), .ref q, rfl, rfl, hq, atI_nat hxq, ?_⟩
    refine ⟨q, _, rfl, hqq, rfl, _, _, rfl, _, _, rfl, rfl, ?_⟩
    refine ⟨_, rfl, _, rfl, _, rfl, _, rfl, br, _, rfl, ?_⟩
    rw [cutn_to]
    refine ⟨_, _, rfl, rfl, by rw [S_len, S_len, List.length_take]; exact sz (m := 80) (by omega) (by decide), ?_⟩
    refine ⟨_, rfl, _, rfl, _, rfl, _, rfl, by rw [S_len]; exact sz l1 (by decide), _, _, rfl, rfl, _, rfl, _, rfl, br, ?_⟩
    rw [S_len, show ((m.1 : Nat) : Int) + (((ps.getD m.2 ([], [])).1.length : Nat) : Int) = ((m.1 + (ps.getD m.2 ([], [])).1.length : Nat) : Int) by omega, cutn_from, S_cat]
    refine ⟨_, _, rfl, rfl, by rw [S_len, S_len, List.length_append, List.length_take, List.length_drop]; exact sz (m := 120) (by omega) (by decide), ?_⟩
    rw [S_cat]
    exact k H (Same.refl H)
theorem ok_after {C : Addr} (T : BT mg) (CH : CC K C) {f : Addr} {fd : FuncData} (me : Meth K C "after" f) (F : C8.Fun K "after" "Rules.after" s_after f fd) (b : Binds K fd ["self", "row", "move"] []) : Met P w K mg base 1 C "after" (spAfter K C) [] := ⟨⟨f, fd, _, [], CH.cl, me, fn_after T CH F, b, .nil⟩⟩
abbrev s_least : Stmt := top 14
abbrev n_least : List Str := ["rules", "row", "begin", "place", "number", "left", "_"]
theorem sc_least : FnScope n_least ["rules", "row", "begin"] (fnScope s_least) := fnScope_by (by decide +kernel)
def optM (H : Hp) (v : V) : Option (Nat × Nat) → Prop
  | none => v = .non
  | some m => ∃ q, v = .ref q ∧ H q = some (.tup [.int (m.1 : Nat), .int (m.2 : Nat)])
def fromL (ps : Ps) (row : List Nat) (b : Nat) : List (Nat × Nat) := (List.range' b (row.length - b)).flatMap fun p => (K60.movesAt ps row p).map fun n => (p, n)
theorem from_head {ps : Ps} {row : List Nat} {b i j : Nat} (hno : ∀ p, b ≤ p → p < b + i → K60.movesAt ps row p = []) (hi : b + i < row.length) (hj : j < ps.length) (hm : ∀ n, n < j → K60.hit ps row (b + i) n = false) (hh : K60.hit ps row (b + i) j = true) : (fromL ps row b).head? = some (b + i, j) := by
  obtain ⟨k, hk⟩ : ∃ k, row.length - b = i + (k + 1) := ⟨row.length - b - i - 1, by omega⟩
  obtain ⟨l, hl⟩ : ∃ l, ps.length = j + (l + 1) := ⟨ps.length - j - 1, by omega⟩
  have e1 : List.range' b (row.length - b) = List.range' b i ++ (b + i) :: List.range' (b + i + 1) k := by
    rw [hk, ← List.range'_append_1, List.range'_succ]
  have e2 : ∃ t, K60.movesAt ps row (b + i) = j :: t := by
    have er : List.range ps.length = List.range j ++ j :: List.range' (j + 1) l := by
      rw [hl, List.range_eq_range', List.range_eq_range', ← List.range'_append_1, List.range'_succ, Nat.zero_add]
    have ez : (List.range j).filter (fun n => K60.hit ps row (b + i) n) = [] := by
      rw [List.filter_eq_nil_iff]
      intro n hn
      rw [hm n (List.mem_range.mp hn)]; decide
    unfold K60.movesAt
    rw [er, List.filter_append, ez, List.nil_append, List.filter_cons_of_pos hh]
    exact ⟨_, rfl⟩
  obtain ⟨t, et⟩ := e2
  have ez : (List.range' b i).flatMap (fun p => (K60.movesAt ps row p).map fun n => (p, n)) = [] := by
    rw [List.flatMap_eq_nil_iff]
    intro p hp
    rw [List.mem_range'_1] at hp
    rw [hno p hp.1 hp.2]; rfl
  unfold fromL
  rw [e1, List.flatMap_append, ez, List.nil_append, List.flatMap_cons, et]
  rfl
def spLeast (K : PySem.W.Frag) (C : Addr) : Sp := fun vs H Q _ => ∃ (a : Addr) (sg : List Nat) (ps : Ps) (row : List Nat) (b : Nat), vs = [.ref a, .str (S row), .int (b : Nat)] ∧ Rul K C H a sg ps ∧ Gr sg ps ∧ row.length ≤ 40 ∧ b ≤ 40 ∧
  ∀ (v : V) (H' : Hp), Same H H' → optM H' v (fromL ps row b).head? → Q v H'
theorem ok_least {C : Addr} (T : BT mg) (CH : CC K C) {f : Addr} {fd : FuncData} (F : Def K mg "_least_move" s_least f fd) (b : Binds K fd ["rules", "row", "begin"] []) : Cal P w K mg base 1 "_least_move" (spLeast K C) [] := by
  refine cal0 F b .nil sc_least (fun vs H Q E h => ?_) (fun cdv A outer s H vs Q E hr h => ?_)
  · obtain ⟨a, sg, ps, row, b, rfl, _⟩ := h; rfl
  · obtain ⟨a, sg, ps, row, b, rfl, hc, g, hrow, hb, k⟩ := h
    obtain ⟨dx, r, ha, hdp⟩ := id hc
    obtain ⟨xs, hq, hxl, hat⟩ := pairs_at hdp
    have br : (S row).length ≤ sizeLine := by rw [S_len]; exact sz hrow (by decide)
    refine ⟨_, (pss_cons (ps_for PassesOwn.never rfl (pi_range2 (by rfl) T.m_range (pa_cons (pv 2) (pa_cons (pe_callB call_len_str (by rfl) T.m_len PySem.boot_len (pa_cons (pv 1) pa_nil)) pa_nil))) (pg_name (i := 3) sc_least.nd rfl (.inl rfl)) 
        (pss_one (ps_for PassesOwn.never rfl (pi_enumX (by rfl) T.m_enumerate (pa_cons (fldK K (pv 0) rfl) pa_nil)) (tupK K 2 (pgs_cons (pg_name (i := 4) sc_least.nd rfl (.inl rfl)) (pgs_cons (tupK K 2 (pgs_cons (pg_name (i := 5) sc_least.nd rfl (.inl rfl)) (pgs_cons (pg_name (i := 6) sc_least.nd rfl (.inl rfl)) pgs_nil))) pgs_nil))) 
          (pss_one (ps_if (pt_val (pe_bm PySem.F.plainAttrs_str PySem.F.slot_str_startswith PySem.F.type_str_startswith mt_startswith3 (pv 1) (pa_cons (pv 5) (pa_cons (pv 3) pa_nil)))) 
            (pss_one (ps_ret (pe_tup (pa_cons (pv 3) (pa_cons (pv 4) pa_nil))))
            )
           pss_nil)
          ))
        ))
      (pss_one (ps_ret pe_non)
      )), ?_⟩
    refine ⟨_, rfl, _, rfl, S row, rfl, br, ?_⟩
    rw [S_len]
    refine ⟨_, _, rfl, ⟨by omega, by omega, by omega, by omega⟩, ?_⟩
    have en : (((row.length : Nat) : Int) - ((b : Nat) : Int)).toNat = row.length - b := by omega
    refine for_it (walk_range (lo := ((b : Nat) : Int)) (n := (((row.length : Nat) : Int) - ((b : Nat) : Int)).toNat)) (fun i σ H' => (∃ s3 s4 s5 s6 : Option V, σ = [some (.ref a), some (.str (S row)), some (.int (b : Nat)), s3, s4, s5, s6]) ∧ Same H H' ∧ ∀ p, b ≤ p → p < b + i → K60.movesAt ps row p = [])
      ⟨⟨_, _, _, _, rfl⟩, Same.refl _, fun p h1 h2 => by omega⟩ (fun _ _ _ _ _ => trivial) ?_ ?_
    · rintro i x σ H1 H1' hi ⟨⟨s3, s4, s5, s6, rfl⟩, w1, hno⟩ ⟨rfl, rfl⟩
      rw [en] at hi
      have hi' : b + i < row.length := by omega
      refine ⟨_, rfl, a, C, dx, _, _, rfl, w1 _ _ ha, CH.cl, CH.nP, ruF_pairs _ _, .ref r, .tup r, rfl, rfl, ⟨_, sm_seqT w1 hq⟩, ?_⟩
      refine for_it (walk_enumX (K := K) (S := .tup r) (xs := xs)) (fun j σ H' => (∃ s4 s5 s6 : Option V, σ = [some (.ref a), some (.str (S row)), some (.int (b : Nat)), some (.int ((b : Nat) + (i : Int))), s4, s5, s6]) ∧ Same H1' H' ∧ ∀ n, n < j → K60.hit ps row (b + i) n = false)
        ⟨⟨_, _, _, rfl⟩, Same.refl _, fun n h => by omega⟩ (fun _ _ _ _ h => sm_seqT (w1.trans h.2.1) hq) ?_ ?_
      · clear s3 s4 s5 s6
        rintro j x σ H2 H2' hj ⟨⟨s4, s5, s6, rfl⟩, w2, hmiss⟩ ⟨t, y1, y2, rfl, ht, rfl, f1, f2⟩
        obtain rfl : V.int (j : Nat) = y1 := Option.some.inj f1
        have hjl : j < ps.length := by rw [hxl] at hj; exact hj
        obtain ⟨qa, hxq, hqa⟩ := hat j hjl
        have f2 : xs[j]? = some y2 := f2
        rw [hxq] at f2
        obtain rfl := Option.some.inj f2
        have sT : Same H2 (upd H2 t (.tup [.int (j : Nat), .ref qa])) := sm_new ht
        refine ⟨t, _, rfl, .inl (.inl upd_same), rfl, _, _, rfl, _, _, rfl, qa, _, rfl, sm_seqT (w1.trans (w2.trans sT)) hqa, rfl, _, _, rfl, _, _, rfl, rfl, rfl, ?_⟩
        refine ⟨_, rfl, rfl, _, rfl, _, rfl, _, _, _, rfl, rfl, _, rfl, ?_⟩
        rw [show ((b : Nat) : Int) + (i : Int) = ((b + i : Nat) : Int) by omega, starts3 (Nat.le_of_lt hi')]
        rw [show decide ((row.drop (b + i)).take (ps.getD j ([], [])).1.length = (ps.getD j ([], [])).1) = K60.hit ps row (b + i) j from rfl]
        generalize upd H2 t (.tup [.int (j : Nat), .ref qa]) = H3 at sT ⊢
        cases hh : K60.hit ps row (b + i) j with
        | true =>
          refine iteB rfl ?_
          refine ⟨_, rfl, _, rfl, by show 2 ≤ sizeLine; decide, fun u hu => ?_⟩
          have w3 := w1.trans (w2.trans sT)
          refine k _ _ (w3.trans (sm_new hu)) ?_
          rw [from_head hno hi' hjl hmiss hh]
          refine ⟨u, rfl, ?_⟩
          rw [upd_same]
        | false =>
          refine iteN rfl ?_
          refine ⟨⟨_, _, _, rfl⟩, w2.trans sT, fun n hn => ?_⟩
          by_cases q : n = j
          · rw [q]; exact hh
          · exact hmiss n (by omega)
      · rintro σ H2 ⟨⟨s4', s5', s6', rfl⟩, w2, hmiss⟩
        refine ⟨⟨_, _, _, _, rfl⟩, w1.trans w2, fun p h1 h2 => ?_⟩
        by_cases q : p = b + i
        · subst q
          unfold K60.movesAt
          rw [List.filter_eq_nil_iff]
          intro n hn
          rw [hmiss n (by rw [hxl]; exact List.mem_range.mp hn)]; decide
        · exact hno p h1 (by omega)
    · rintro σ H1 ⟨⟨s3, s4, s5, s6, rfl⟩, w1, hno⟩
      rw [en] at hno
      refine k _ _ w1 ?_
      have : fromL ps row b = [] := by
        unfold fromL
        rw [List.flatMap_eq_nil_iff]
        intro p hp
        rw [List.mem_range'_1] at hp
        rw [hno p hp.1 hp.2]; rfl
      rw [this]
      exact rfl
end
end Toy
set_option maxHeartbeats 2000000
namespace Toy
open PySem L2 C8 SX LX
local macro_rules | `(tactic| walk_at "c") => `(tactic| refine And.intro (by first | (show (0 : Int) < _; omega) | exact Or.inr ⟨by decide, by decide⟩ | exact Or.inl ⟨by decide, by decide⟩ | (exact ⟨by omega, by omega⟩)) ?_)
local macro_rules | `(tactic| walk_at "s1") => `(tactic| first | refine ⟨_, rfl, ?_⟩ | refine ⟨_, _, rfl, rfl, ?_⟩ | refine .inl ⟨_, rfl, ?_⟩ | walk_at "c")
local macro_rules | `(tactic| walk_at "ix") => `(tactic| refine ⟨_, _, _, _, rfl, rfl, SqL.of (by first | assumption | exact upd_same), rfl, ?_⟩)
local macro_rules | `(tactic| walk_at "s") => `(tactic| repeat (walk_at "s1"))
theorem Gr.short2 {sg : List Nat} {ps : Ps} (g : Gr sg ps) : ∀ p ∈ ps, p.2.length ≤ 40 := fun p hp => by
  have h1 := g.short p hp
  rcases (g.dn p hp).2.2 with h | h
  · have : p.2.length < p.1.length := h
    omega
  · have : p.2.length = p.1.length := h.1
    omega
theorem Gr.down {sg : List Nat} {ps : Ps} (g : Gr sg ps) : K60.Down sg ps := fun p hp => g.dn p hp
theorem Gr.pos {sg : List Nat} {ps : Ps} (g : Gr sg ps) : ∀ p ∈ ps, 1 ≤ p.1.length := fun p hp => by
  rcases (g.dn p hp).2.2 with h | h
  · have : p.2.length < p.1.length := h
    omega
  · rcases Nat.eq_zero_or_pos p.1.length with e | e
    · exfalso
      have h1 := List.length_eq_zero_iff.mp e
      have h2 := h.2
      rw [h1] at h2
      exact absurd h2 (by simp)
    · exact e
abbrev Lk := List (List Nat × (Nat × Nat))
def StR (H : Hp) (us : List Addr) (lk : Lk) : Prop := Paired (fun u p => ∃ (q : Addr), H u = some (.tup [.str (S p.1), .ref q]) ∧ H q = some (.tup [.int (p.2.1 : Nat), .int (p.2.2 : Nat)])) us lk
theorem StR.same {H H' : Hp} {qs : List Addr} {l : Lk} (s : Same H H') (h : StR H qs l) : StR H' qs l := pr_imp (fun _ _ ⟨q, e, f⟩ => ⟨q, s _ _ e, s _ _ f⟩) h
theorem StR.put {H : Hp} {D : Addr} {acc : List V} {o : HO} {qs : List Addr} {l : Lk} (hD : H D = some (.lst acc)) (h : StR H qs l) : StR (upd H D o) qs l := pr_imp (fun _ _ ⟨q, e, f⟩ => ⟨q, by rw [upd_ne (fun z => by rw [z, hD] at e; cases e)]; exact e, by rw [upd_ne (fun z => by rw [z, hD] at f; cases f)]; exact f⟩) h
theorem StR.len {H : Hp} : ∀ {qs : List Addr} {l : Lk}, StR H qs l → qs.length = l.length
  | _, _, .nil => rfl
  | _, _, .cons _ h2 => by rw [List.length_cons, List.length_cons, StR.len h2]
theorem StR.get {H : Hp} : ∀ {us : List Addr} {lk : Lk}, StR H us lk → ∀ (i : Nat) (p : List Nat × (Nat × Nat)), lk[i]? = some p → ∃ (u q : Addr), us[i]? = some u ∧ H u = some (.tup [.str (S p.1), .ref q]) ∧ H q = some (.tup [.int (p.2.1 : Nat), .int (p.2.2 : Nat)])
  | _, _, .nil, i, m, h => by simp at h
  | _, _, .cons h1 _, 0, m, h => by cases h; obtain ⟨q, e, f⟩ := h1; exact ⟨_, q, rfl, e, f⟩
  | _, _, .cons _ h2, i + 1, m, h => StR.get h2 i m h
inductive Way (ps : Ps) : List Nat → Lk → List Nat → Prop
  | stop {r : List Nat} : Way ps r [] r
  | go {r e : List Nat} {m : Nat × Nat} {lk : Lk} : m ∈ K60.movesL ps r → Way ps (K60.afterL ps r m) lk e → Way ps r ((r, m) :: lk) e
theorem Way.snoc {ps : Ps} {r x : List Nat} {lk : Lk} (h : Way ps r lk x) : ∀ {m : Nat × Nat}, m ∈ K60.movesL ps x → Way ps r (lk ++ [(x, m)]) (K60.afterL ps x m) := by
  induction h with
  | stop => exact fun hm => .go hm .stop
  | go h1 _ ih => exact fun hm => .go h1 (ih hm)
theorem from_zero {ps : Ps} {row : List Nat} {b : Nat} (h : K60.Clean ps row b) : fromL ps row b = K60.movesL ps row := (K60.moves_from h).symm
theorem head_cons {l : List (Nat × Nat)} {m : Nat × Nat} (h : l.head? = some m) : ∃ t, l = m :: t := by
  cases l with
  | nil => cases h
  | cons x t => cases h; exact ⟨t, rfl⟩
theorem maxdef_use {K : PySem.W.Frag} {H : Hp} {D : Addr} {Q : VK} {ps : Ps} (hD : H D = some (.lst (ps.map fun p => V.int (p.1.length : Nat)))) (h40 : ∀ p ∈ ps, p.1.length ≤ 40) (k : ∀ L : Nat, (∀ p ∈ ps, p.1.length ≤ L) → L ≤ 40 → Q (.int (L : Nat)) H) : rMaxDef K [.ref D] [.int 0] H Q := by
  refine ⟨D, ps.map fun p => (p.1.length : Int), 0, rfl, rfl, SqL.of (by rw [List.map_map]; exact hD), fun e => ?_, fun _ m hm hle => ?_⟩
  · have : ps = [] := by simpa using e
    subst this
    exact k 0 (fun _ h => nomatch h) (Nat.zero_le _)
  · obtain ⟨p, hp, rfl⟩ := List.mem_map.mp hm
    refine k p.1.length (fun q hq => ?_) (h40 p hp)
    have := hle _ (List.mem_map.mpr ⟨q, hq, rfl⟩)
    omega
theorem max_nat (a b : Nat) : (if ((a : Int) - (b : Int) + 1) > 0 then ((a : Int) - (b : Int) + 1) else 0) = ((a + 1 - b : Nat) : Int) := by
  split <;> omega
structure Dn (sg : List Nat) (ps : Ps) (row : List Nat) (acc : Lk) (x : List Nat) : Prop where
  gone : K60.Gone ps row (acc.map (·.2)) x
  way : Way ps row acc x
  ov : Ov sg x
  len : x.length ≤ 10
  le : x.length ≤ row.length
  many : acc.length + K60.rk sg x ≤ K60.rk sg row
theorem Dn.next {sg : List Nat} {ps : Ps} {row x : List Nat} {acc : Lk} {m : Nat × Nat} {t : List (Nat × Nat)} (g : Gr sg ps) (h : Dn sg ps row acc x) (e : K60.movesL ps x = m :: t) : Dn sg ps row (acc ++ [(x, m)]) (K60.afterL ps x m) ∧ K60.rk sg (K60.afterL ps x m) < K60.rk sg x := by
  have hm : m ∈ K60.movesL ps x := by rw [e]; exact List.mem_cons_self
  have ho := K60.after_ord g.down hm
  have hv := K60.after_ov g.down h.ov (K60.mem_moves.mp hm).2.1
  have hr := K60.rk_ord g.mn g.asc hv h.ov ho
  refine ⟨⟨by rw [List.map_append]; exact h.gone.next e, h.way.snoc hm, hv, ?_, ?_, ?_⟩, hr⟩
  · have := h.len
    rcases ho with ho | ho
    · omega
    · have := ho.1; omega
  · have := h.le
    rcases ho with ho | ho
    · omega
    · have := ho.1; omega
  · have := h.many
    rw [List.length_append, List.length_singleton]; omega
section
variable {P : Program} {w : World} {K : PySem.W.Frag} {mg : Str → Option Value} {base : Heap}
abbrev s_steps : Stmt := inClass (top 13) 5
abbrev n_steps : List Str := ["self", "row", "longest", "found", "move", "left", "right"]
theorem sc_steps : FnScope n_steps ["self", "row"] (fnScope s_steps) := fnScope_by (by decide +kernel)
def spSteps (K : PySem.W.Frag) (C : Addr) : Sp := fun vs H Q _ => ∃ (a : Addr) (sg : List Nat) (ps : Ps) (row : List Nat), vs = [.ref a, .str (S row)] ∧ Rul K C H a sg ps ∧ Gr sg ps ∧ Ov sg row ∧ row.length ≤ 10 ∧
  ∀ (t fl : Addr) (us : List Addr) (lk : Lk) (e : List Nat) (H' : Hp), Same H H' → H' t = some (.tup [.ref fl, .str (S e)]) → H' fl = some (.lst (us.map V.ref)) → StR H' us lk → K60.Road ps row (lk.map (·.2)) e → Way ps row lk e → Ov sg e → e.length ≤ row.length → lk.length ≤ K60.rk sg row → Q (.ref t) H'
theorem ok_steps {C : Addr} (T : BT mg) (CH : CC K C) (c_after : Met P w K mg base 1 C "after" (spAfter K C) []) (c_least : Cal P w K mg base 1 "_least_move" (spLeast K C) []) {f : Addr} {fd : FuncData} (me : Meth K C "steps_down" f) (F : C8.Fun K "steps_down" "Rules.steps_down" s_steps f fd) (b : Binds K fd ["self", "row"] []) : Met P w K mg base 2 C "steps_down" (spSteps K C) [] := by
  refine met0 CH.cl me F b sc_steps (fun vs H Q E h => ?_) (fun cdv A outer s H vs Q E hr h => ?_)
  · obtain ⟨a, sg, ps, row, rfl, _⟩ := h; rfl
  · obtain ⟨a, sg, ps, row, rfl, hc, g, hov, hrow, k⟩ := h
    obtain ⟨dx, r, ha, hdp⟩ := id hc
    obtain ⟨xs, hq, hxl, hat⟩ := pairs_at hdp
    have hfew := g.few
    refine ⟨_, (pss_cons (ps_set (i := 2) sc_steps.nd rfl (.inl rfl) (pe_callBK (cr_maxDef rfl) (by rfl) T.m_max PyProof.Rows.boot_max (pa_cons (pe_lc (own := [("left", 5), ("right", 6)]) rfl sc_steps.nd (pi_tup (fldK K (pv 0) rfl)) (blkOk_by (N := n_steps) (sc := fnScope s_steps) (by decide +kernel)) (fun _ _ _ _ _ => (tupK K 2 (pgs_cons (pg_name (i := 5) sc_steps.nd rfl (.inl rfl)) (pgs_cons (pg_name (i := 6) sc_steps.nd rfl (.inl rfl)) pgs_nil)))) (fun _ _ _ _ _ => pts_nil) (fun _ _ _ _ _ => (pe_callB call_len_str (by rfl) T.m_len PySem.boot_len (pa_cons (pv 5) pa_nil)))) pa_nil) (pk_cons pe_int pk_nil)))
      (pss_cons (ps_set (i := 3) sc_steps.nd rfl (.inl rfl) (pe_lst pa_nil))
      (pss_cons (ps_set (i := 4) sc_steps.nd rfl (.inl rfl) (pe_c c_least hr (by first | decide | omega) (by rfl) (pa_cons (pv 0) (pa_cons (pv 1) (pa_cons pe_int pa_nil)))))
      (pss_cons (ps_while PassesOwn.never (pt_cmpR op_notN (pv 4) pe_non (nomark _)) 
        (pss_cons (ps_expr (pe_bm PySem.F.plainAttrs_list PySem.F.slot_list_append PySem.F.type_list_append mt_append (pv 3) (pa_cons (pe_tup (pa_cons (pv 1) (pa_cons (pv 4) pa_nil))) pa_nil)))
        (pss_cons (ps_set (i := 1) sc_steps.nd rfl (.inl rfl) (pe_mt c_after hr (by decide) (pv 0) (pa_cons (pv 1) (pa_cons (pv 4) pa_nil))))
        (pss_one (ps_set (i := 4) sc_steps.nd rfl (.inl rfl) (pe_c c_least hr (by first | decide | omega) (by rfl) (pa_cons (pv 0) (pa_cons (pv 1) (pa_cons (pe_callB (call_max2 rfl) (by rfl) T.m_max PyProof.Rows.boot_max (pa_cons pe_int (pa_cons (pe_op op_add (pe_op op_sub (pe_ix (ixt K) (pv 4) pe_int (fun _ _ => rfl)) (pv 2)) pe_int) pa_nil))) pa_nil)))))
        ))))
      (pss_one (ps_ret (pe_tup (pa_cons (pv 3) (pa_cons (pv 1) pa_nil))))
      ))))), ?_⟩
    refine ⟨_, rfl, a, C, dx, _, _, rfl, ha, CH.cl, CH.nP, ruF_pairs _ _, r, rfl, ⟨_, hq⟩, fun D hD => ?_⟩
    refine lc_keep keep_same (walk_tup (K := K) (a := r) (xs := xs)) hD (by rw [hxl]; exact small1000 (by omega)) (fun j y => y = .int ((ps.getD j ([], [])).1.length : Nat)) (fun H r => sm_seqT r hq) (fun i x H2 H3 R hii r1 hy hR => ?_) (fun ys H1 hly hg w1 hDs => ?_)
    · obtain ⟨rfl, e⟩ := hy
      rw [hxl] at hii
      obtain ⟨qa, hxq, hqa⟩ := hat i hii
      rw [hxq] at e
      obtain rfl := Option.some.inj e
      have l1 : (ps.getD i ([], [])).1.length ≤ 40 := g.short _ (by rw [List.getD_eq_getElem?_getD, List.getElem?_eq_getElem hii]; exact List.getElem_mem hii)
      refine ⟨qa, _, rfl, sm_seqT r1 hqa, rfl, _, _, rfl, _, _, rfl, rfl, rfl, ?_⟩
      refine ⟨_, rfl, _, rfl, by rw [S_len]; exact sz l1 (by decide), ?_⟩
      rw [S_len]
      exact hR _ _ (Same.refl _) rfl
    have ey : ys = ps.map fun p => V.int (p.1.length : Nat) := by
      refine list_map (by rw [hly, hxl]) fun j y p e1 e2 => ?_
      rw [hg j y e1, List.getD_eq_getElem?_getD, e2]; rfl
    subst ey
    conv => unfold tNil tCons tC
    dsimp only
    refine maxdef_use hDs g.short fun L hL hL40 => ?_
    clear hDs hly hg hD
    refine ⟨by show 0 ≤ sizeLine; decide, fun fl hfl => ?_⟩
    have w2 := w1.trans (sm_new (o := .lst []) hfl)
    have hfl2 : (upd H1 fl (.lst [])) fl = some (.lst []) := upd_same
    have hflH : H fl = none := w1.free hfl
    generalize upd H1 fl (.lst []) = H2 at w2 hfl2 ⊢
    have br : ∀ x : List Nat, x.length ≤ 10 → x.length ≤ 40 := fun x h => by omega
    refine ⟨_, rfl, _, rfl, a, sg, ps, row, 0, rfl, hc.same w2, g, by omega, by decide, fun v H3 s3 hv => ?_⟩
    rw [from_zero (b := 0) (fun p n hp => absurd hp (Nat.not_lt_zero _))] at hv
    have w3 := w2.trans s3
    have hfl3 := s3 _ _ hfl2
    clear hfl2 s3 w2 hfl w1
    have rk6 : K60.rk sg row ≤ 1048576 := by
      have h1 := K60.rk_lt g.mn hov
      have : 4 ^ row.length ≤ 4 ^ 10 := Nat.pow_le_pow_right (by decide) hrow
      have : 4 ^ 10 = 1048576 := by decide
      omega
    refine ⟨fun m σ H' => ∃ (x : List Nat) (v : V) (us : List Addr) (acc : Lk), m = K60.rk sg x ∧ σ = [some (.ref a), some (.str (S x)), some (.int (L : Nat)), some (.ref fl), some v, none, none] ∧
      Same H H' ∧ H' fl = some (.lst (us.map V.ref)) ∧ StR H' us acc ∧ Dn sg ps row acc x ∧ optM H' v (K60.movesL ps x).head?, ?_, ?_⟩
    · exact ⟨_, row, v, [], [], rfl, rfl, w3, hfl3, .nil, ⟨K60.Gone.init ps row, .stop, hov, hrow, Nat.le_refl _, by simp⟩, hv⟩
    clear hv hfl3 w3 v H3
    rintro m σ H3 ⟨x, v, us, acc, rfl, rfl, w3, hfl3, hst, hdn, hv⟩
    refine ⟨_, rfl, rfl, _, rfl, ?_⟩
    cases hh : (K60.movesL ps x).head? with
    | none =>
      rw [hh] at hv
      obtain rfl : v = .non := hv
      refine iteN rfl ?_
      refine ⟨_, rfl, _, rfl, by show 2 ≤ sizeLine; decide, fun t ht => ?_⟩
      exact k t fl us acc x _ (w3.trans (sm_new ht)) upd_same (sm_new ht _ _ hfl3) (hst.same (sm_new ht)) (hdn.gone.all (List.head?_eq_none_iff.mp hh)) hdn.way hdn.ov hdn.le (by have := hdn.many; omega)
    | some m =>
      rw [hh] at hv
      obtain ⟨q, rfl, hq3⟩ := hv
      obtain ⟨t, et⟩ := head_cons hh
      refine iteB rfl ?_
      obtain ⟨hnx, hlt⟩ := hdn.next g et
      have hm := K60.mem_moves.mp (show m ∈ K60.movesL ps x by rw [et]; exact List.mem_cons_self)
      refine ⟨fun σ' H' => ∃ (y : List Nat) (v : V) (us : List Addr) (acc : Lk), K60.rk sg y < K60.rk sg x ∧ σ' = [some (.ref a), some (.str (S y)), some (.int (L : Nat)), some (.ref fl), some v, none, none] ∧
        Same H H' ∧ H' fl = some (.lst (us.map V.ref)) ∧ StR H' us acc ∧ Dn sg ps row acc y ∧ optM H' v (K60.movesL ps y).head?,
        fun σ' H' ⟨y, v, us, acc, a0, a1, a2, a3, a4, a5, a6⟩ => ⟨K60.rk sg y, a0, y, v, us, acc, rfl, a1, a2, a3, a4, a5, a6⟩, ?_⟩
      refine ⟨_, rfl, .inl ⟨rfl, _, SqL.of hfl3⟩, ?_⟩
      refine ⟨_, rfl, _, rfl, by show 2 ≤ sizeLine; decide, fun u hu => ?_⟩
      have su := sm_new (o := .tup [.str (S x), .ref q]) hu
      have hu4 : (upd H3 u (.tup [.str (S x), .ref q])) u = some (.tup [.str (S x), .ref q]) := upd_same
      have hfl4 := su _ _ hfl3
      have hst4 := hst.same su
      have hq4 := su _ _ hq3
      have w4 := w3.trans su
      have hul := hst.len
      generalize upd H3 u (.tup [.str (S x), .ref q]) = H4 at hu4 hfl4 hst4 hq4 w4 ⊢
      clear su hu hfl3 hst hq3 w3 H3
      have hmany := hdn.many
      refine ⟨fl, _, _, rfl, rfl, hfl4, by rw [List.length_map, hul]; exact Nat.lt_of_le_of_lt (Nat.le_trans (Nat.le_trans (Nat.le_add_right _ _) hmany) rk6) (by decide), ?_⟩
      have nqf : q ≠ fl := fun e => by rw [e, hfl4] at hq4; cases hq4
      have hfl5 : (upd H4 fl (.lst (us.map V.ref ++ [.ref u]))) fl = some (.lst ((us ++ [u]).map V.ref)) := by rw [upd_same, List.map_append]; rfl
      have hq5 : (upd H4 fl (.lst (us.map V.ref ++ [.ref u]))) q = some (.tup [.int (m.1 : Nat), .int (m.2 : Nat)]) := by rw [upd_ne nqf]; exact hq4
      have hst5 : StR (upd H4 fl (.lst (us.map V.ref ++ [.ref u]))) (us ++ [u]) (acc ++ [(x, m)]) := StR.put hfl4 (pr_snoc hst4 ⟨q, hu4, hq4⟩)
      have w5 : Same H (upd H4 fl (.lst (us.map V.ref ++ [.ref u]))) := sm_put w4 hflH
      generalize upd H4 fl (.lst (us.map V.ref ++ [.ref u])) = H5 at hfl5 hq5 hst5 w5 ⊢
      clear hu4 hfl4 hst4 hq4 w4 nqf H4
      refine ⟨_, rfl, a, dx, _, rfl, w5 _ _ ha, ruF_no _ _ (by decide +kernel) (by decide +kernel), _, rfl, _, rfl, a, q, sg, ps, x, m, rfl, hc.same w5, g, g.short2, br _ hdn.len, SqT.of hq5, Nat.le_of_lt hm.1, hm.2.1, fun H6 w6 => ?_⟩
      have hq6 := w6 _ _ hq5
      have hfl6 := w6 _ _ hfl5
      have hst6 := hst5.same w6
      have w6' := w5.trans w6
      clear hq5 hfl5 hst5 w5 w6 H5
      have hpm : ps.getD m.2 ([], []) ∈ ps := by rw [List.getD_eq_getElem?_getD, List.getElem?_eq_getElem hm.2.1]; exact List.getElem_mem hm.2.1
      have hL1 : 1 ≤ L := Nat.le_trans (g.pos _ hpm) (hL _ hpm)
      have hcl := K60.after_clean hL1 hL hm.2.1 hm.2.2 hm.1 (K60.first_clean et)
      refine ⟨_, rfl, _, rfl, _, rfl, q, _, 0, _, rfl, rfl, SqT.of hq6, rfl, _, rfl, _, _, rfl, rfl, _, _, rfl, rfl, _, _, rfl, ?_⟩
      rw [max_nat]
      have hm10 := hm.1
      have hx10 := hdn.len
      refine ⟨a, sg, ps, K60.afterL ps x m, m.1 + 1 - L, rfl, hc.same w6', g, br _ hnx.len, by omega, fun v H7 w7 hv => ?_⟩
      rw [from_zero hcl] at hv
      exact ⟨_, v, us ++ [u], acc ++ [(x, m)], hlt, rfl, w6'.trans w7, w7 _ _ hfl6, hst6.same w7, hnx, hv⟩
end
end Toy
set_option maxHeartbeats 2000000
namespace Toy
open PySem L2 C8 SX LX
local macro_rules | `(tactic| walk_at "c") => `(tactic| refine And.intro (by first | (show (0 : Int) < _; omega) | exact Or.inr ⟨by decide, by decide⟩ | exact Or.inl ⟨by decide, by decide⟩ | (exact ⟨by omega, by omega⟩)) ?_)
local macro_rules | `(tactic| walk_at "s1") => `(tactic| first | refine ⟨_, rfl, ?_⟩ | refine ⟨_, _, rfl, rfl, ?_⟩ | refine .inl ⟨_, rfl, ?_⟩ | walk_at "c")
local macro_rules | `(tactic| walk_at "ix") => `(tactic| refine ⟨_, _, _, _, rfl, rfl, SqL.of (by first | assumption | exact upd_same), rfl, ?_⟩)
local macro_rules | `(tactic| walk_at "s") => `(tactic| repeat (walk_at "s1"))
section
variable {P : Program} {w : World} {K : PySem.W.Frag} {mg : Str → Option Value} {base : Heap}
abbrev s_reduced : Stmt := inClass (top 13) 3
abbrev n_reduced : List Str := ["self", "row"]
theorem sc_reduced : FnScope n_reduced ["self", "row"] (fnScope s_reduced) := fnScope_by (by decide +kernel)
def spReduced (K : PySem.W.Frag) (C : Addr) : Sp := fun vs H Q _ => ∃ (a : Addr) (sg : List Nat) (ps : Ps) (row : List Nat), vs = [.ref a, .str (S row)] ∧ Rul K C H a sg ps ∧ Gr sg ps ∧ Ov sg row ∧ row.length ≤ 10 ∧
  ∀ (ms : List (Nat × Nat)) (e : List Nat) (H' : Hp), Same H H' → K60.Road ps row ms e → Ov sg e → e.length ≤ row.length → Q (.str (S e)) H'
theorem fn_reduced {C : Addr} (T : BT mg) (CH : CC K C) (c_steps : Met P w K mg base 2 C "steps_down" (spSteps K C) []) {f : Addr} {fd : FuncData} (F : C8.Fun K "reduced" "Rules.reduced" s_reduced f fd) : FnOk P w K mg base C8.CX0 3 f fd ["self", "row"] (spReduced K C) := by
  refine fn0 F sc_reduced (fun vs H Q E h => ?_) (fun cdv A outer s H vs Q E hr h => ?_)
  · obtain ⟨a, sg, ps, row, rfl, _⟩ := h; rfl
  · obtain ⟨a, sg, ps, row, rfl, hc, g, hov, hrow, k⟩ := h
    obtain ⟨dx, r, ha, hdp⟩ := id hc
    refine ⟨_, (pss_one (ps_ret (pe_ix (ixt K) (pe_mt c_steps hr (by decide) (pv 0) (pa_cons (pv 1) pa_nil)) pe_int (fun _ _ => rfl)))
      ), ?_⟩
    refine ⟨_, rfl, a, dx, _, rfl, ha, ruF_no _ _ (by decide +kernel) (by decide +kernel), _, rfl, a, sg, ps, row, rfl, hc, g, hov, hrow, fun t fl us lk e H1 s1 ht hfl hst hroad _ hoe hle _ => ?_⟩
    exact ⟨t, _, 1, _, rfl, rfl, SqT.of ht, rfl, k _ e H1 s1 hroad hoe hle⟩
theorem ok_reduced {C : Addr} (T : BT mg) (CH : CC K C) (c_steps : Met P w K mg base 2 C "steps_down" (spSteps K C) []) {f : Addr} {fd : FuncData} (me : Meth K C "reduced" f) (F : C8.Fun K "reduced" "Rules.reduced" s_reduced f fd) (b : Binds K fd ["self", "row"] []) : Met P w K mg base 3 C "reduced" (spReduced K C) [] := ⟨⟨f, fd, _, [], CH.cl, me, fn_reduced T CH c_steps F, b, .nil⟩⟩
end
end Toy
set_option maxHeartbeats 2000000
namespace Toy
open PySem L2 C8 SX LX
local macro_rules | `(tactic| walk_at "c") => `(tactic| refine And.intro (by first | (show (0 : Int) < _; omega) | exact Or.inr ⟨by decide, by decide⟩ | exact Or.inl ⟨by decide, by decide⟩ | (exact ⟨by omega, by omega⟩)) ?_)
local macro_rules | `(tactic| walk_at "s1") => `(tactic| first | refine ⟨_, rfl, ?_⟩ | refine ⟨_, _, rfl, rfl, ?_⟩ | refine .inl ⟨_, rfl, ?_⟩ | walk_at "c")
local macro_rules | `(tactic| walk_at "ix") => `(tactic| refine ⟨_, _, _, _, rfl, rfl, SqL.of (by first | assumption | exact upd_same), rfl, ?_⟩)
local macro_rules | `(tactic| walk_at "s") => `(tactic| repeat (walk_at "s1"))
def PrAt (H : Hp) (qs : List Addr) (ps : Ps) : Prop := Paired (fun q p => H q = some (.tup [.str (S p.1), .str (S p.2)])) qs ps
theorem PrAt.same {H H' : Hp} {qs : List Addr} {l : Ps} (s : Same H H') (h : PrAt H qs l) : PrAt H' qs l := pr_imp (fun _ _ e => s _ _ e) h
theorem PrAt.put {H : Hp} {D : Addr} {acc : List V} {o : HO} {qs : List Addr} {l : Ps} (hD : H D = some (.lst acc)) (h : PrAt H qs l) : PrAt (upd H D o) qs l := pr_imp (fun _ _ e => by rw [upd_ne (fun z => by rw [z, hD] at e; cases e)]; exact e) h
theorem PrAt.bx {b : Addr} {H H' : Hp} {qs : List Addr} {l : Ps} (hb : BoxAt b H) (s : Bx b H H') (h : PrAt H qs l) : PrAt H' qs l := pr_imp (fun _ _ e => s.1 _ _ (fun z => by
  obtain ⟨o, eo, x, y, w, rfl⟩ := hb
  rw [z, eo] at e; cases e) e) h
theorem PrAt.dp {K : PySem.W.Frag} {H : Hp} : ∀ {qs : List Addr} {l : Ps}, PrAt H qs l → DpAll K H (qs.map V.ref) (l.map prD)
  | _, _, .nil => .nil
  | _, _, .cons h1 h2 => .cons (.tup (SqT.of h1) (.cons (.str _) (.cons (.str _) .nil))) (PrAt.dp h2)
theorem PrAt.len {H : Hp} : ∀ {qs : List Addr} {l : Ps}, PrAt H qs l → qs.length = l.length
  | _, _, .nil => rfl
  | _, _, .cons _ h2 => by rw [List.length_cons, List.length_cons, PrAt.len h2]
theorem PrAt.at {H : Hp} : ∀ {qs : List Addr} {ps : Ps}, PrAt H qs ps → ∀ n, n < ps.length → ∃ q, qs[n]? = some q ∧ H q = some (.tup [.str (S (ps.getD n ([], [])).1), .str (S (ps.getD n ([], [])).2)])
  | _, _, .nil, n, h => by simp at h
  | _, _, .cons h1 _, 0, _ => ⟨_, rfl, h1⟩
  | _, _, .cons _ h2, n + 1, h => by
    obtain ⟨q, e1, e2⟩ := PrAt.at h2 n (by simpa using h)
    exact ⟨q, e1, e2⟩
section
variable {P : Program} {w : World} {K : PySem.W.Frag} {mg : Str → Option Value} {base : Heap}
abbrev s_rank : Stmt := top 24
abbrev n_rank : List Str := ["row"]
theorem sc_rank : FnScope n_rank ["row"] (fnScope s_rank) := fnScope_by (by decide +kernel)
theorem ok_rank (T : BT mg) {f : Addr} {fd : FuncData} (F : Def K mg "_law_rank" s_rank f fd) (b : Binds K fd ["row"] []) : Cal P w K mg base 1 "_law_rank" spOrd [] := by
  refine cal0 F b .nil sc_rank (fun vs H Q E h => ?_) (fun cdv A outer s H vs Q E hr h => ?_)
  · obtain ⟨l, rfl, _⟩ := h; rfl
  · obtain ⟨l, rfl, hl, k⟩ := h
    refine ⟨_, (pss_one (ps_ret (pe_tup (pa_cons (pe_callB call_len_str (by rfl) T.m_len PySem.boot_len (pa_cons (pv 0) pa_nil)) (pa_cons (pv 0) pa_nil))))
      ), ?_⟩
    refine ⟨_, rfl, S l, rfl, by rw [S_len]; exact sz hl (by decide), _, rfl, by show 2 ≤ sizeLine; decide, fun t ht => ?_⟩
    rw [S_len]
    exact k t _ (sm_new ht) upd_same
abbrev s_lafter : Stmt := top 29
abbrev n_lafter : List Str := ["pairs", "row", "move", "left", "right"]
theorem sc_lafter : FnScope n_lafter ["pairs", "row", "move"] (fnScope s_lafter) := fnScope_by (by decide +kernel)
def spLAfter (K : PySem.W.Frag) : Sp := fun vs H Q _ => ∃ (pl mm : Addr) (qs : List Addr) (sg : List Nat) (ps : Ps) (row : List Nat) (m : Nat × Nat), vs = [.ref pl, .str (S row), .ref mm] ∧ H pl = some (.lst (qs.map V.ref)) ∧ PrAt H qs ps ∧ Gr sg ps ∧ row.length ≤ 40 ∧ SqT K H mm [.int (m.1 : Nat), .int (m.2 : Nat)] ∧ m.1 ≤ row.length ∧ m.2 < ps.length ∧
  ∀ H', Same H H' → Q (.str (S (K60.afterL ps row m))) H'
theorem ok_lafter (T : BT mg) {f : Addr} {fd : FuncData} (F : Def K mg "_law_after" s_lafter f fd) (b : Binds K fd ["pairs", "row", "move"] []) : Cal P w K mg base 1 "_law_after" (spLAfter K) [] := by
  refine cal0 F b .nil sc_lafter (fun vs H Q E h => ?_) (fun cdv A outer s H vs Q E hr h => ?_)
  · obtain ⟨pl, mm, _, _, _, row, m, rfl, _⟩ := h; rfl
  · obtain ⟨pl, mm, qs, sg, ps, row, m, rfl, hpl, hpr, g, hrow, hm, h1, h2, k⟩ := h
    obtain ⟨q, hxq, hqq⟩ := hpr.at m.2 h2
    have hpm : ps.getD m.2 ([], []) ∈ ps := by rw [List.getD_eq_getElem?_getD, List.getElem?_eq_getElem h2]; exact List.getElem_mem h2
    have l1 := g.short _ hpm
    have l2 := g.short2 _ hpm
    have br : (S row).length ≤ sizeLine := by rw [S_len]; exact sz hrow (by decide)
    refine ⟨_, (pss_cons (ps_asg (pe_ix (ixl K) (pv 0) (pe_ix (ixt K) (pv 2) pe_int (fun _ _ => rfl)) (fun _ _ => rfl)) (tupK K 2 (pgs_cons (pg_name (i := 3) sc_lafter.nd rfl (.inl rfl)) (pgs_cons (pg_name (i := 4) sc_lafter.nd rfl (.inl rfl)) pgs_nil))))
      (pss_one (ps_ret (pe_op op_add_str (pe_op op_add_str (pe_slice sl_txt (pv 1) po_none (po_some (pe_ix (ixt K) (pv 2) pe_int (fun _ _ => rfl)))) (pv 4)) (pe_slice sl_txt (pv 1) (po_some (pe_op op_add (pe_ix (ixt K) (pv 2) pe_int (fun _ _ => rfl)) (pe_callB call_len_str (by rfl) T.m_len PySem.boot_len (pa_cons (pv 3) pa_nil)))) po_none)))
      )), ?_⟩
    refine ⟨_, rfl, _, rfl, mm, _, 1, _, rfl, rfl, hm, rfl, pl, _, (m.2 : Nat), .ref q, rfl, rfl, SqL.of hpl, atI_nat (by rw [List.getElem?_map, hxq]; rfl), ?_⟩
    refine ⟨q, _, rfl, SqT.of hqq, rfl, _, _, rfl, _, _, rfl, rfl, ?_⟩
    refine ⟨_, rfl, _, rfl, mm, _, 0, _, rfl, rfl, hm, rfl, _, rfl, _, rfl, br, _, rfl, ?_⟩
    rw [cutn_to]
    refine ⟨_, _, rfl, rfl, by rw [S_len, S_len, List.length_take]; exact sz (m := 80) (by omega) (by decide), ?_⟩
    refine ⟨_, rfl, _, rfl, mm, _, 0, _, rfl, rfl, hm, rfl, _, rfl, _, rfl, by rw [S_len]; exact sz l1 (by decide), _, _, rfl, rfl, _, rfl, _, rfl, br, ?_⟩
    rw [S_len, show ((m.1 : Nat) : Int) + (((ps.getD m.2 ([], [])).1.length : Nat) : Int) = ((m.1 + (ps.getD m.2 ([], [])).1.length : Nat) : Int) by omega, cutn_from, S_cat]
    refine ⟨_, _, rfl, rfl, by rw [S_len, S_len, List.length_append, List.length_take, List.length_drop]; exact sz (m := 120) (by omega) (by decide), ?_⟩
    rw [S_cat]
    exact k H (Same.refl H)
abbrev s_lmoves : Stmt := top 28
abbrev n_lmoves : List Str := ["pairs", "row", "found", "place", "number", "left", "right"]
theorem sc_lmoves : FnScope n_lmoves ["pairs", "row"] (fnScope s_lmoves) := fnScope_by (by decide +kernel)
def spLMoves : Sp := fun vs H Q _ => ∃ (pl : Addr) (qs : List Addr) (sg : List Nat) (ps : Ps) (row : List Nat), vs = [.ref pl, .str (S row)] ∧ H pl = some (.lst (qs.map V.ref)) ∧ PrAt H qs ps ∧ Gr sg ps ∧ row.length ≤ 40 ∧
  ∀ (p : Addr) (us : List Addr) (H' : Hp), Same H H' → H p = none → H' p = some (.lst (us.map V.ref)) → MvAt H' us (K60.movesL ps row) → Q (.ref p) H'
theorem ok_lmoves (T : BT mg) {f : Addr} {fd : FuncData} (F : Def K mg "_law_moves" s_lmoves f fd) (b : Binds K fd ["pairs", "row"] []) : Cal P w K mg base 1 "_law_moves" spLMoves [] := by
  refine cal0 F b .nil sc_lmoves (fun vs H Q E h => ?_) (fun cdv A outer s H vs Q E hr h => ?_)
  · obtain ⟨pl, _, _, _, row, rfl, _⟩ := h; rfl
  · obtain ⟨pl, qs, sg, ps, row, rfl, hpl, hpr, g, hrow, k⟩ := h
    have hql := hpr.len
    have hfew := g.few
    have br : (S row).length ≤ sizeLine := by rw [S_len]; exact sz hrow (by decide)
    refine ⟨_, (pss_cons (ps_set (i := 2) sc_lmoves.nd rfl (.inl rfl) (pe_lst pa_nil))
      (pss_cons (ps_for PassesOwn.never rfl (pi_range1 (by rfl) T.m_range (pa_cons (pe_callB call_len_str (by rfl) T.m_len PySem.boot_len (pa_cons (pv 1) pa_nil)) pa_nil)) (pg_name (i := 3) sc_lmoves.nd rfl (.inl rfl)) 
        (pss_one (ps_for PassesOwn.never rfl (pi_enumX (by rfl) T.m_enumerate (pa_cons (pv 0) pa_nil)) (tupK K 2 (pgs_cons (pg_name (i := 4) sc_lmoves.nd rfl (.inl rfl)) (pgs_cons (tupK K 2 (pgs_cons (pg_name (i := 5) sc_lmoves.nd rfl (.inl rfl)) (pgs_cons (pg_name (i := 6) sc_lmoves.nd rfl (.inl rfl)) pgs_nil))) pgs_nil))) 
          (pss_one (ps_if (pt_val (pe_bm PySem.F.plainAttrs_str PySem.F.slot_str_startswith PySem.F.type_str_startswith mt_startswith (pe_slice sl_txt (pv 1) (po_some (pv 3)) po_none) (pa_cons (pv 5) pa_nil))) 
            (pss_one (ps_expr (pe_bm PySem.F.plainAttrs_list PySem.F.slot_list_append PySem.F.type_list_append mt_append (pv 2) (pa_cons (pe_tup (pa_cons (pv 3) (pa_cons (pv 4) pa_nil))) pa_nil)))
            )
           pss_nil)
          ))
        ))
      (pss_one (ps_ret (pv 2))
      ))), ?_⟩
    refine ⟨by show 0 ≤ sizeLine; decide, fun fl hfl => ?_⟩
    refine ⟨_, rfl, S row, rfl, br, ?_⟩
    rw [S_len]
    refine ⟨_, rfl, by omega, by omega, ?_⟩
    have en : ((row.length : Nat) : Int).toNat = row.length := by omega
    refine for_it (walk_range (lo := 0) (n := ((row.length : Nat) : Int).toNat)) (fun i σ H' => (∃ s3 s4 s5 s6 : Option V, σ = [some (.ref pl), some (.str (S row)), some (.ref fl), s3, s4, s5, s6]) ∧ ∃ us : List Addr, Same H H' ∧ H' fl = some (.lst (us.map V.ref)) ∧ MvAt H' us ((List.range i).flatMap fun p => (K60.movesAt ps row p).map fun n => (p, n)))
      ⟨⟨_, _, _, _, rfl⟩, [], sm_new hfl, upd_same, .nil⟩ (fun _ _ _ _ _ => trivial) ?_ ?_
    · rintro i x σ H1 H1' hi ⟨⟨s3, s4, s5, s6, rfl⟩, us, w1, e1, m1⟩ ⟨rfl, rfl⟩
      rw [en] at hi
      refine ⟨_, rfl, .ref pl, .lst pl, rfl, rfl, ⟨_, SqL.of (w1 _ _ hpl)⟩, ?_⟩
      refine for_it (walk_enumX (K := K) (S := .lst pl) (xs := qs.map V.ref)) (fun j σ H' => (∃ s4 s5 s6 : Option V, σ = [some (.ref pl), some (.str (S row)), some (.ref fl), some (.int (0 + (i : Int))), s4, s5, s6]) ∧ ∃ us : List Addr, Same H H' ∧ H' fl = some (.lst (us.map V.ref)) ∧ MvAt H' us (((List.range i).flatMap fun p => (K60.movesAt ps row p).map fun n => (p, n)) ++ (((List.range j).filter fun n => K60.hit ps row i n).map fun n => (i, n))))
        ⟨⟨_, _, _, rfl⟩, us, w1, e1, by simpa using m1⟩ (fun _ _ _ _ h => let ⟨_, _, s, _⟩ := h; SqL.of (s _ _ hpl)) ?_ ?_
      · clear s3 s4 s5 s6 e1 m1 w1 us
        rintro j x σ H2 H2' hj ⟨⟨s4, s5, s6, rfl⟩, us, w2, e2, m2⟩ ⟨t, y1, y2, rfl, ht, rfl, f1, f2⟩
        obtain rfl : V.int (j : Nat) = y1 := Option.some.inj f1
        have hjl : j < ps.length := by rw [List.length_map, hql] at hj; exact hj
        obtain ⟨qa, hxq, hqa⟩ := hpr.at j hjl
        have f2 : (qs.map V.ref)[j]? = some y2 := f2
        rw [List.getElem?_map, hxq] at f2
        obtain rfl := Option.some.inj f2
        have hpm : ps.getD j ([], []) ∈ ps := by rw [List.getD_eq_getElem?_getD, List.getElem?_eq_getElem hjl]; exact List.getElem_mem hjl
        have sT : Same H2 (upd H2 t (.tup [.int (j : Nat), .ref qa])) := sm_new ht
        refine ⟨t, _, rfl, .inl (.inl upd_same), rfl, _, _, rfl, _, _, rfl, qa, _, rfl, SqT.of ((w2.trans sT) _ _ hqa), rfl, _, _, rfl, _, _, rfl, rfl, rfl, ?_⟩
        have e3 := sT _ _ e2
        have m3 := m2.same sT
        have w3 := w2.trans sT
        have hul := m2.len
        have hml : (((List.range i).flatMap fun p => (K60.movesAt ps row p).map fun n => (p, n)) ++ (((List.range j).filter fun n => K60.hit ps row i n).map fun n => (i, n))).length ≤ 41 * 20 := by
          have h1 := flat_len (c := 20) (l := List.range i) (f := fun p => (K60.movesAt ps row p).map fun n => (p, n)) fun p _ => by rw [List.length_map]; exact Nat.le_trans (movesAt_len ps row p) hfew
          have h2 := List.length_filter_le (fun n => K60.hit ps row i n) (List.range j)
          rw [List.length_range] at h1 h2
          rw [List.length_append, List.length_map]
          have : i * 20 ≤ 40 * 20 := Nat.mul_le_mul_right _ (by omega)
          omega
        have eT : K60.hit ps row i j = true → ((List.range (j + 1)).filter fun n => K60.hit ps row i n).map (fun n => (i, n)) = (((List.range j).filter fun n => K60.hit ps row i n).map fun n => (i, n)) ++ [(i, j)] := fun hh => by
          rw [List.range_succ, List.filter_append, List.map_append, List.filter_cons_of_pos hh]; rfl
        have eF : K60.hit ps row i j = false → ((List.range (j + 1)).filter fun n => K60.hit ps row i n).map (fun n => (i, n)) = (((List.range j).filter fun n => K60.hit ps row i n).map fun n => (i, n)) := fun hh => by
          rw [List.range_succ, List.filter_append, List.map_append, List.filter_cons_of_neg (by rw [hh]; decide)]
          exact List.append_nil _
        generalize upd H2 t (.tup [.int (j : Nat), .ref qa]) = H3 at e3 m3 w3 ⊢
        refine ⟨_, rfl, _, rfl, _, rfl, _, rfl, br, rfl, _, rfl, _, _, rfl, rfl, _, rfl, ?_⟩
        rw [show (0 : Int) + (i : Int) = ((i : Nat) : Int) by omega, cutn_from, starts_pre]
        rw [show decide ((row.drop i).take (ps.getD j ([], [])).1.length = (ps.getD j ([], [])).1) = K60.hit ps row i j from rfl]
        cases hh : K60.hit ps row i j with
        | true =>
          refine iteB rfl ?_
          refine ⟨_, rfl, .inl ⟨rfl, _, SqL.of e3⟩, ?_⟩
          refine ⟨_, rfl, _, rfl, by show 2 ≤ sizeLine; decide, fun u hu => ?_⟩
          have su := sm_new (o := .tup [.int ((i : Nat) : Int), .int (j : Nat)]) hu
          refine ⟨fl, _, _, rfl, rfl, su _ _ e3, by rw [List.length_map, hul]; exact Nat.lt_of_le_of_lt hml (by decide), ?_⟩
          refine ⟨⟨_, _, _, rfl⟩, us ++ [u], sm_put (w3.trans su) hfl, ?_, ?_⟩
          · rw [upd_same, List.map_append]; rfl
          · rw [eT hh, ← List.append_assoc]
            refine MvAt.put (su _ _ e3) (pr_snoc (m3.same su) ?_)
            rw [upd_same]
        | false =>
          refine iteN rfl ?_
          refine ⟨⟨_, _, _, rfl⟩, us, w3, e3, ?_⟩
          rw [eF hh]; exact m3
      · rintro σ H2 ⟨⟨s4, s5, s6, rfl⟩, us, w2, e2, m2⟩
        refine ⟨⟨_, _, _, _, rfl⟩, us, w2, e2, ?_⟩
        rw [List.range_succ, List.flatMap_append, List.flatMap_singleton]
        rw [List.length_map, hql] at m2
        exact m2
    · rintro σ H1 ⟨⟨s3, s4, s5, s6, rfl⟩, us, w1, e1, m1⟩
      rw [en] at m1
      exact ⟨_, rfl, k fl us H1 w1 hfl e1 m1⟩
end
end Toy
set_option maxHeartbeats 2000000
namespace Toy
open PySem L2 C8 SX LX
local macro_rules | `(tactic| walk_at "c") => `(tactic| refine And.intro (by first | (show (0 : Int) < _; omega) | exact Or.inr ⟨by decide, by decide⟩ | exact Or.inl ⟨by decide, by decide⟩ | (exact ⟨by omega, by omega⟩)) ?_)
local macro_rules | `(tactic| walk_at "s1") => `(tactic| first | refine ⟨_, rfl, ?_⟩ | refine ⟨_, _, rfl, rfl, ?_⟩ | refine .inl ⟨_, rfl, ?_⟩ | walk_at "c")
local macro_rules | `(tactic| walk_at "ix") => `(tactic| refine ⟨_, _, _, _, rfl, rfl, SqL.of (by first | assumption | exact upd_same), rfl, ?_⟩)
local macro_rules | `(tactic| walk_at "s") => `(tactic| repeat (walk_at "s1"))
theorem lay_mv : ∀ (ms : List (Nat × Nat)), PyData.canLayAll0 (ms.map mvD) = true ∧ PyData.depthAll (ms.map mvD) ≤ 4
  | [] => ⟨rfl, Nat.zero_le _⟩
  | m :: ms => by
    obtain ⟨h1, h2⟩ := lay_mv ms
    refine ⟨?_, ?_⟩
    · show (PyData.canLay0 (mvD m) && PyData.canLayAll0 (ms.map mvD)) = true
      rw [h1]; rfl
    · show max (PyData.depth (mvD m)) (PyData.depthAll (ms.map mvD)) ≤ 4
      have : PyData.depth (mvD m) ≤ 4 := by
        show PyData.depthAll [PyData.int (m.1 : Nat), PyData.int (m.2 : Nat)] + 1 ≤ 4
        show max 0 (max 0 0) + 1 ≤ 4
        decide
      omega
theorem shaped_mvs (ms : List (Nat × Nat)) : SeqAt.shaped (.list (ms.map mvD)) = true := by
  obtain ⟨h1, h2⟩ := lay_mv ms
  show (PyData.canLayAll0 _ && decide (PyData.depthAll _ + 1 ≤ 64)) = true
  rw [h1, Bool.true_and, decide_eq_true_eq]; omega
theorem shaped_mvt (ms : List (Nat × Nat)) : SeqAt.shaped (mvsD ms) = true := by
  obtain ⟨h1, h2⟩ := lay_mv ms
  show (PyData.canLayAll0 _ && decide (PyData.depthAll _ + 1 ≤ 64)) = true
  rw [h1, Bool.true_and, decide_eq_true_eq]; omega
theorem eqv_mv_nil (ms : List (Nat × Nat)) : PyData.eqv (.list (ms.map mvD)) (.list []) = decide (ms = []) := by
  cases ms <;> rfl
structure Dn0 (sg : List Nat) (ps : Ps) (row : List Nat) (acc : List (Nat × Nat)) (x : List Nat) : Prop where
  gone : K60.Gone ps row acc x
  ov : Ov sg x
  len : x.length ≤ 10
  many : acc.length + K60.rk sg x ≤ K60.rk sg row
theorem Dn0.next {sg : List Nat} {ps : Ps} {row x : List Nat} {acc : List (Nat × Nat)} {m : Nat × Nat} {t : List (Nat × Nat)} (g : Gr sg ps) (h : Dn0 sg ps row acc x) (e : K60.movesL ps x = m :: t) : Dn0 sg ps row (acc ++ [m]) (K60.afterL ps x m) ∧ K60.rk sg (K60.afterL ps x m) < K60.rk sg x := by
  have hm : m ∈ K60.movesL ps x := by rw [e]; exact List.mem_cons_self
  have ho := K60.after_ord g.down hm
  have hv := K60.after_ov g.down h.ov (K60.mem_moves.mp hm).2.1
  have hr := K60.rk_ord g.mn g.asc hv h.ov ho
  refine ⟨⟨h.gone.next e, hv, ?_, ?_⟩, hr⟩
  · have := h.len
    rcases ho with ho | ho
    · omega
    · have := ho.1; omega
  · have := h.many
    rw [List.length_append, List.length_singleton]; omega
section
variable {P : Program} {w : World} {K : PySem.W.Frag} {mg : Str → Option Value} {base : Heap}
abbrev s_lroad : Stmt := top 30
abbrev n_lroad : List Str := ["pairs", "row", "found", "some"]
theorem sc_lroad : FnScope n_lroad ["pairs", "row"] (fnScope s_lroad) := fnScope_by (by decide +kernel)
def spLRoad : Sp := fun vs H Q _ => ∃ (pl : Addr) (qs : List Addr) (sg : List Nat) (ps : Ps) (row : List Nat), vs = [.ref pl, .str (S row)] ∧ H pl = some (.lst (qs.map V.ref)) ∧ PrAt H qs ps ∧ Gr sg ps ∧ Ov sg row ∧ row.length ≤ 10 ∧
  ∀ (t fl : Addr) (us : List Addr) (ms : List (Nat × Nat)) (e : List Nat) (H' : Hp), Same H H' → H' t = some (.tup [.ref fl, .str (S e)]) → H' fl = some (.lst (us.map V.ref)) → MvAt H' us ms → K60.Road ps row ms e → Ov sg e → e.length ≤ 10 → Q (.ref t) H'
theorem ok_lroad (T : BT mg) (c_lmoves : Cal P w K mg base 1 "_law_moves" spLMoves []) (c_lafter : Cal P w K mg base 1 "_law_after" (spLAfter K) []) {f : Addr} {fd : FuncData} (F : Def K mg "_law_road" s_lroad f fd) (b : Binds K fd ["pairs", "row"] []) : Cal P w K mg base 2 "_law_road" spLRoad [] := by
  refine cal0 F b .nil sc_lroad (fun vs H Q E h => ?_) (fun cdv A outer s H vs Q E hr h => ?_)
  · obtain ⟨pl, _, _, _, row, rfl, _⟩ := h; rfl
  · obtain ⟨pl, qs, sg, ps, row, rfl, hpl, hpr, g, hov, hrow, k⟩ := h
    have br : ∀ x : List Nat, x.length ≤ 10 → x.length ≤ 40 := fun x h => by omega
    refine ⟨_, (pss_cons (ps_par (i := 2) (j := 3) rfl sc_lroad.nd rfl rfl (by decide) rfl rfl (pa_cons (pe_lst pa_nil) (pa_cons (pe_c c_lmoves hr (by first | decide | omega) (by rfl) (pa_cons (pv 0) (pa_cons (pv 1) pa_nil))) pa_nil)) rfl)
      (pss_cons (ps_while PassesOwn.never (pt_cmpR (op_neDK K hr) (pv 3) (pe_lst pa_nil) (nomark _)) 
        (pss_cons (ps_expr (pe_bm PySem.F.plainAttrs_list PySem.F.slot_list_append PySem.F.type_list_append mt_append (pv 2) (pa_cons (pe_ix (ixl K) (pv 3) pe_int (fun _ _ => rfl)) pa_nil)))
        (pss_cons (ps_set (i := 1) sc_lroad.nd rfl (.inl rfl) (pe_c c_lafter hr (by first | decide | omega) (by rfl) (pa_cons (pv 0) (pa_cons (pv 1) (pa_cons (pe_ix (ixl K) (pv 3) pe_int (fun _ _ => rfl)) pa_nil)))))
        (pss_one (ps_set (i := 3) sc_lroad.nd rfl (.inl rfl) (pe_c c_lmoves hr (by first | decide | omega) (by rfl) (pa_cons (pv 0) (pa_cons (pv 1) pa_nil))))
        ))))
      (pss_one (ps_ret (pe_tup (pa_cons (pv 2) (pa_cons (pv 1) pa_nil))))
      ))), ?_⟩
    refine ⟨by show 0 ≤ sizeLine; decide, fun fl hfl => ?_⟩
    have w1 := sm_new (o := .lst []) hfl
    have hfl1 : (upd H fl (.lst [])) fl = some (.lst []) := upd_same
    generalize upd H fl (.lst []) = H1 at w1 hfl1 ⊢
    refine ⟨_, rfl, _, rfl, pl, qs, sg, ps, row, rfl, w1 _ _ hpl, hpr.same w1, g, br _ hrow, fun so us H2 s2 hso0 hso hmv => ⟨_, _, rfl, ?_⟩⟩
    have w2 := w1.trans s2
    have hfl2 := s2 _ _ hfl1
    have nsf : so ≠ fl := fun e => by rw [e, hfl1] at hso0; cases hso0
    clear hso0 hfl1 s2 w1 H1
    have rk6 : K60.rk sg row ≤ 1048576 := by
      have h1 := K60.rk_lt g.mn hov
      have : 4 ^ row.length ≤ 4 ^ 10 := Nat.pow_le_pow_right (by decide) hrow
      have : 4 ^ 10 = 1048576 := by decide
      omega
    refine ⟨fun m σ H' => ∃ (x : List Nat) (so : Addr) (us vs : List Addr) (acc : List (Nat × Nat)), m = K60.rk sg x ∧ σ = [some (.ref pl), some (.str (S x)), some (.ref fl), some (.ref so)] ∧
      Same H H' ∧ H' fl = some (.lst (vs.map V.ref)) ∧ MvAt H' vs acc ∧ Dn0 sg ps row acc x ∧ H' so = some (.lst (us.map V.ref)) ∧ MvAt H' us (K60.movesL ps x) ∧ so ≠ fl, ?_, ?_⟩
    · exact ⟨_, row, so, us, [], [], rfl, rfl, w2, hfl2, .nil, ⟨K60.Gone.init ps row, hov, hrow, by simp⟩, hso, hmv, nsf⟩
    clear nsf hso hmv hfl2 w2 H2 us so
    rintro m σ H2 ⟨x, so, us, vs, acc, rfl, rfl, w2, hfl2, hac, hdn, hso, hmv, nsf⟩
    refine ⟨_, rfl, by show 0 ≤ sizeLine; decide, fun e he => ?_⟩
    have w3 := w2.trans (sm_new (o := .lst []) he)
    have hso3 := sm_new (o := .lst []) he _ _ hso
    have hmv3 := hmv.same (sm_new (o := .lst []) he)
    have hfl3 := sm_new (o := .lst []) he _ _ hfl2
    have hac3 := hac.same (sm_new (o := .lst []) he)
    refine ⟨.list ((K60.movesL ps x).map mvD), .list [], .lst (SqL.of hso3) hmv3.dp, .lst (SqL.of upd_same) .nil, shaped_mvs _, shaped_lst (xs := []) (fun _ h => nomatch h), _, rfl, ?_⟩
    rw [eqv_mv_nil]
    generalize upd H2 e (.lst []) = H3 at w3 hso3 hmv3 hfl3 hac3 ⊢
    clear hso hmv hfl2 hac w2 he
    cases hh : K60.movesL ps x with
    | nil =>
      refine iteN rfl ?_
      refine ⟨_, rfl, _, rfl, by show 2 ≤ sizeLine; decide, fun t ht => ?_⟩
      exact k t fl vs acc x _ (w3.trans (sm_new ht)) upd_same (sm_new ht _ _ hfl3) (hac3.same (sm_new ht)) (hdn.gone.all hh) hdn.ov hdn.len
    | cons m t =>
      rw [hh] at hmv3
      obtain ⟨hnx, hlt⟩ := hdn.next g hh
      have hm := K60.mem_moves.mp (show m ∈ K60.movesL ps x by rw [hh]; exact List.mem_cons_self)
      refine iteB rfl ?_
      refine ⟨fun σ' H' => ∃ (y : List Nat) (so : Addr) (us vs : List Addr) (acc : List (Nat × Nat)), K60.rk sg y < K60.rk sg x ∧ σ' = [some (.ref pl), some (.str (S y)), some (.ref fl), some (.ref so)] ∧
        Same H H' ∧ H' fl = some (.lst (vs.map V.ref)) ∧ MvAt H' vs acc ∧ Dn0 sg ps row acc y ∧ H' so = some (.lst (us.map V.ref)) ∧ MvAt H' us (K60.movesL ps y) ∧ so ≠ fl,
        fun σ' H' ⟨y, so, us, vs, acc, a0, a1, a2, a3, a4, a5, a6, a7, a8⟩ => ⟨K60.rk sg y, a0, y, so, us, vs, acc, rfl, a1, a2, a3, a4, a5, a6, a7, a8⟩, ?_⟩
      obtain ⟨u, us', rfl, hu⟩ : ∃ u us', us = u :: us' ∧ H3 u = some (.tup [.int (m.1 : Nat), .int (m.2 : Nat)]) := by
        cases hmv3 with
        | cons h1 _ => exact ⟨_, _, rfl, h1⟩
      have hmany := hdn.many
      have hvl := hac3.len
      refine ⟨_, rfl, .inl ⟨rfl, _, SqL.of hfl3⟩, ?_⟩
      refine ⟨_, rfl, so, _, 0, .ref u, rfl, rfl, SqL.of hso3, atI_nat (j := 0) rfl, ?_⟩
      refine ⟨fl, _, _, rfl, rfl, hfl3, by rw [List.length_map, hvl]; exact Nat.lt_of_le_of_lt (Nat.le_trans (Nat.le_trans (Nat.le_add_right _ _) hmany) rk6) (by decide), ?_⟩
      have nuf : u ≠ fl := fun e => by rw [e, hfl3] at hu; cases hu
      have hfl4 : (upd H3 fl (.lst (vs.map V.ref ++ [.ref u]))) fl = some (.lst ((vs ++ [u]).map V.ref)) := by rw [upd_same, List.map_append]; rfl
      have hu4 : (upd H3 fl (.lst (vs.map V.ref ++ [.ref u]))) u = some (.tup [.int (m.1 : Nat), .int (m.2 : Nat)]) := by rw [upd_ne nuf]; exact hu
      have hso4 : (upd H3 fl (.lst (vs.map V.ref ++ [.ref u]))) so = some (.lst ((u :: us').map V.ref)) := by rw [upd_ne nsf]; exact hso3
      have hac4 : MvAt (upd H3 fl (.lst (vs.map V.ref ++ [.ref u]))) (vs ++ [u]) (acc ++ [m]) := MvAt.put hfl3 (pr_snoc hac3 hu)
      have w4 : Same H (upd H3 fl (.lst (vs.map V.ref ++ [.ref u]))) := sm_put w3 hfl
      generalize upd H3 fl (.lst (vs.map V.ref ++ [.ref u])) = H4 at hfl4 hu4 hso4 hac4 w4 ⊢
      refine ⟨_, rfl, _, rfl, _, rfl, so, _, 0, .ref u, rfl, rfl, SqL.of hso4, atI_nat (j := 0) rfl, pl, u, qs, sg, ps, x, m, rfl, w4 _ _ hpl, hpr.same w4, g, br _ hdn.len, SqT.of hu4, Nat.le_of_lt hm.1, hm.2.1, fun H5 w5 => ?_⟩
      have w5' := w4.trans w5
      refine ⟨_, rfl, _, rfl, pl, qs, sg, ps, K60.afterL ps x m, rfl, w5' _ _ hpl, hpr.same w5', g, br _ hnx.len, fun so2 us2 H6 w6 hn6 hso6 hmv6 => ?_⟩
      exact ⟨_, so2, us2, vs ++ [u], acc ++ [m], hlt, rfl, w5'.trans w6, w6 _ _ (w5 _ _ hfl4), hac4.same (w5.trans w6), hnx, hso6, hmv6, fun e => by rw [e, w5 _ _ hfl4] at hn6; cases hn6⟩
end
end Toy
set_option maxHeartbeats 2000000
namespace Toy
open PySem L2 C8 SX LX
local macro_rules | `(tactic| walk_at "c") => `(tactic| refine And.intro (by first | (show (0 : Int) < _; omega) | exact Or.inr ⟨by decide, by decide⟩ | exact Or.inl ⟨by decide, by decide⟩ | (exact ⟨by omega, by omega⟩)) ?_)
local macro_rules | `(tactic| walk_at "s1") => `(tactic| first | refine ⟨_, rfl, ?_⟩ | refine ⟨_, _, rfl, rfl, ?_⟩ | refine .inl ⟨_, rfl, ?_⟩ | walk_at "c")
local macro_rules | `(tactic| walk_at "ix") => `(tactic| refine ⟨_, _, _, _, rfl, rfl, SqL.of (by first | assumption | exact upd_same), rfl, ?_⟩)
local macro_rules | `(tactic| walk_at "s") => `(tactic| repeat (walk_at "s1"))
theorem anyAt_iff {ls : List (List Nat)} {i : Nat} : anyAt ls i = false ↔ ∀ j, j < ls.length → j ≠ i → Sub (ls.getD i []) (ls.getD j []) = false := by
  unfold anyAt takenN
  rw [List.any_eq_false]
  constructor
  · intro h j hj hji
    have := h _ (List.mem_map.mpr ⟨j, List.mem_filter.mpr ⟨List.mem_range.mpr hj, decide_eq_true hji⟩, rfl⟩)
    exact Bool.not_eq_true _ ▸ this
  · intro h x hx
    obtain ⟨j, hj, rfl⟩ := List.mem_map.mp hx
    obtain ⟨h1, h2⟩ := List.mem_filter.mp hj
    rw [id, h j (List.mem_range.mp h1) (of_decide_eq_true h2)]; decide
theorem noSub_iff {ls : List (List Nat)} : noSub ls = true ↔ ∀ i j, i < ls.length → j < ls.length → j ≠ i → Sub (ls.getD i []) (ls.getD j []) = false := by
  constructor
  · intro h i j hi hj hji
    cases e : anyAt ls i with
    | true => rw [noSub_no hi e] at h; cases h
    | false => exact anyAt_iff.mp e j hj hji
  · intro h
    exact noSub_yes fun i hi => anyAt_iff.mpr fun j hj hji => h i j hi hj hji
theorem getD_left {l : List (List Nat)} {x : List Nat} {i : Nat} (h : i < l.length) : (l ++ [x]).getD i [] = l.getD i [] := by
  rw [List.getD_eq_getElem?_getD, List.getD_eq_getElem?_getD, List.getElem?_append_left h]
theorem getD_end {l : List (List Nat)} {x : List Nat} : (l ++ [x]).getD l.length [] = x := by
  rw [List.getD_eq_getElem?_getD, List.getElem?_append_right (Nat.le_refl _)]; simp
theorem getD_mem {l : List (List Nat)} {i : Nat} (h : i < l.length) : l.getD i [] ∈ l := by
  rw [List.getD_eq_getElem?_getD, List.getElem?_eq_getElem h]; exact List.getElem_mem h
theorem noSub_add {ls : List (List Nat)} {x : List Nat} (h : noSub ls = true) (hx : ∀ l ∈ ls, Sub l x = false ∧ Sub x l = false) : noSub (ls ++ [x]) = true := by
  rw [noSub_iff] at h ⊢
  intro i j hi hj hji
  rw [List.length_append, List.length_singleton] at hi hj
  by_cases h1 : i < ls.length
  · by_cases h2 : j < ls.length
    · rw [getD_left h1, getD_left h2]; exact h i j h1 h2 hji
    · obtain rfl : j = ls.length := by omega
      rw [getD_left h1, getD_end]; exact (hx _ (getD_mem h1)).1
  · obtain rfl : i = ls.length := by omega
    have h2 : j < ls.length := by omega
    rw [getD_left h2, getD_end]; exact (hx _ (getD_mem h2)).2
theorem bxsm {b : Addr} {H H1 H2 : Hp} (h : Bx b H H1) (s : Same H1 H2) : Bx b H H2 := ⟨fun a o n e => s _ _ (h.1 a o n e), let ⟨o, e, p⟩ := h.2; ⟨o, s _ _ e, p⟩⟩
structure Drawn (sg : List Nat) (ps : Ps) (n : Nat) : Prop where
  dn : Down sg ps
  short : ∀ p ∈ ps, p.1.length ≤ 4
  few : ps.length ≤ n
  ns : noSub (ps.map (·.1)) = true
theorem drawn_nil (sg : List Nat) (n : Nat) : Drawn sg [] n := ⟨fun _ h => (nomatch h), fun _ h => (nomatch h), Nat.zero_le _, rfl⟩
theorem menu_asc {sg : List Nat} (h : Menu sg) : sg.Pairwise (· < ·) := by
  rcases menu_cases h with rfl | rfl | rfl | rfl <;> decide
theorem Drawn.gr {sg : List Nat} {ps : Ps} {n : Nat} (hm : Menu sg) (hn : n ≤ 20) (h : Drawn sg ps n) : Gr sg ps :=
  ⟨(menu_len hm).2, menu_asc hm, fun c hc => by have := menu_small hm c hc; omega, Nat.le_trans h.few hn, h.dn, fun p hp => Nat.le_trans (h.short p hp) (by decide)⟩
section
variable {P : Program} {w : World} {K : PySem.W.Frag} {mg : Str → Option Value} {base : Heap}
abbrev s_pairs : Stmt := top 27
abbrev n_pairs : List Str := ["box", "signs", "many", "found", "turn", "left", "right", "near", "one", "other"]
theorem sc_pairs : FnScope n_pairs ["box", "signs", "many"] (fnScope s_pairs) := fnScope_by (by decide +kernel)
def spLPairs : Sp := fun vs H Q _ => ∃ (b : Addr) (sg : List Nat) (many : Nat), vs = [.ref b, .str (S sg), .int (many : Nat)] ∧ Menu sg ∧ many ≤ 4 ∧ BoxAt b H ∧
  ∀ (p : Addr) (qs : List Addr) (ps : Ps) (H' : Hp), Bx b H H' → H p = none → H' p = some (.lst (qs.map V.ref)) → PrAt H' qs ps → Drawn sg ps many → Q (.ref p) H'
theorem ok_pairs (T : BT mg) (c_row : Cal P w K mg base 3 "_law_row" spRow []) (c_pick : Cal P w K mg base 2 "_law_pick" (spPick K) []) (c_rank : Cal P w K mg base 1 "_law_rank" spOrd []) {f : Addr} {fd : FuncData} (F : Def K mg "_law_pairs" s_pairs f fd) (b : Binds K fd ["box", "signs", "many"] []) : Cal P w K mg base 4 "_law_pairs" spLPairs [] := by
  refine cal0 F b .nil sc_pairs (fun vs H Q E h => ?_) (fun cdv A outer s H vs Q E hr h => ?_)
  · obtain ⟨b, sg, many, rfl, _⟩ := h; rfl
  · obtain ⟨b, sg, many, rfl, hm, h4, hb, k⟩ := h
    have hsl := menu_len hm
    refine ⟨_, (pss_cons (ps_set (i := 3) sc_pairs.nd rfl (.inl rfl) (pe_lst pa_nil))
      (pss_cons (ps_for PassesOwn.never rfl (pi_range1 (by rfl) T.m_range (pa_cons (pv 2) pa_nil)) (pg_name (i := 4) sc_pairs.nd rfl (.inl rfl)) 
        (pss_cons (ps_set (i := 5) sc_pairs.nd rfl (.inr rfl) (pe_op op_add_str (pe_c c_row hr (by first | decide | omega) (by rfl) (pa_cons (pv 0) (pa_cons (pv 1) (pa_cons pe_int pa_nil)))) (pe_c c_pick hr (by first | decide | omega) (by rfl) (pa_cons (pv 0) (pa_cons (pv 1) pa_nil)))))
        (pss_cons (ps_set (i := 6) sc_pairs.nd rfl (.inl rfl) (pe_c c_row hr (by first | decide | omega) (by rfl) (pa_cons (pv 0) (pa_cons (pv 1) (pa_cons (pe_callB call_len_str (by rfl) T.m_len PySem.boot_len (pa_cons (pv 5) pa_nil)) pa_nil)))))
        (pss_one (ps_if (pt_cmpR (op_ltP hr.units0) (pe_c c_rank hr (by first | decide | omega) (by rfl) (pa_cons (pv 6) pa_nil)) (pe_c c_rank hr (by first | decide | omega) (by rfl) (pa_cons (pv 5) pa_nil)) (nomark _)) 
          (pss_cons (ps_setLc (i := 7) (own := [("one", 8), ("other", 9)]) rfl sc_pairs.nd rfl rfl rfl (pi_list (pv 3)) (blkOk_by (N := n_pairs) (sc := fnScope s_pairs) (by decide +kernel)) (fun _ _ _ _ _ => (tupK K 2 (pgs_cons (pg_name (i := 8) sc_pairs.nd rfl (.inl rfl)) (pgs_cons (pg_name (i := 9) sc_pairs.nd rfl (.inl rfl)) pgs_nil)))) (fun _ _ _ _ _ => pts_one (PW.pt (pw_or (pt_cmpR op_inSub (pv 8) (pv 5) rfl) (pw_or1 (pt_cmpR op_inSub (pv 5) (pv 8) rfl))))) (fun _ _ _ _ _ => (pv 8)))
          (pss_one (ps_set (i := 3) sc_pairs.nd rfl (.inl rfl) (pe_op op_cat (pv 3) (pe_ifExp (pt_cmpR (op_eqDK K hr) (pv 7) (pe_lst pa_nil) (nomark _)) (pe_lst (pa_cons (pe_tup (pa_cons (pv 5) (pa_cons (pv 6) pa_nil))) pa_nil)) (pe_lst pa_nil))))
          ))
         pss_nil)
        ))))
      (pss_one (ps_ret (pv 3))
      ))), ?_⟩
    refine ⟨by show 0 ≤ sizeLine; decide, fun fl hfl => ?_⟩
    have b1 : Bx b H (upd H fl (.lst [])) := Bx.put (bk_same (Same.refl H) hb) hb hfl
    refine ⟨_, rfl, _, rfl, by omega, by omega, ?_⟩
    have en : ((many : Nat) : Int).toNat = many := by omega
    refine for_it (walk_range (lo := 0) (n := ((many : Nat) : Int).toNat)) (fun i σ H' => ∃ (fl : Addr) (qs : List Addr) (ps : Ps) (s4 s5 s6 s7 : Option V), σ = [some (.ref b), some (.str (S sg)), some (.int (many : Nat)), some (.ref fl), s4, s5, s6, s7, none, none] ∧ Bx b H H' ∧ H fl = none ∧ H' fl = some (.lst (qs.map V.ref)) ∧ PrAt H' qs ps ∧ Drawn sg ps i)
      ⟨fl, [], [], _, _, _, _, rfl, b1, hfl, upd_same, .nil, drawn_nil sg 0⟩ (fun _ _ _ _ _ => trivial) ?_ ?_
    · clear b1 hfl fl
      rintro i x σ H1 H1' hi ⟨fl, qs, ps, s4, s5, s6, s7, rfl, b1, hfl, e1, p1, d1⟩ ⟨rfl, rfl⟩
      rw [en] at hi
      have nfb : fl ≠ b := box_ne hb hfl
      refine ⟨_, rfl, _, rfl, b, sg, 3, rfl, hm, by decide, b1.2, fun l1 H2 ho1 hl1 b2 => ?_⟩
      refine ⟨_, rfl, _, rfl, b, .str (S sg), _, rfl, b2.2, (fun e => nomatch e), seq_text (by omega), by simpa using hsl.1, by simp; omega, fun v H3 hv b3 => ?_⟩
      obtain ⟨c, hc, rfl⟩ := List.mem_map.mp hv
      refine ⟨_, _, rfl, rfl, by rw [S_len, S_len]; exact sz (m := 4) (by simp; omega) (by decide), ?_⟩
      rw [S_cat]
      have hlo : Ov sg (l1 ++ [c]) := fun d hd => by
        rcases List.mem_append.mp hd with hd | hd
        · exact ho1 d hd
        · rw [List.mem_singleton.mp hd]; exact hc
      have hll : (l1 ++ [c]).length ≤ 4 := by simp; omega
      generalize l1 ++ [c] = left at hlo hll ⊢
      have hln := hll
      refine ⟨_, rfl, _, rfl, _, rfl, S left, rfl, by rw [S_len]; exact sz hll (by decide), ?_⟩
      rw [S_len]
      refine ⟨b, sg, left.length, rfl, hm, by omega, b3.2, fun rt H4 hor hrl b4 => ?_⟩
      have nb14 : ∀ a o, a ≠ b → H1' a = some o → H4 a = some o := fun a o n e => b4.1 _ _ n (b3.1 _ _ n (b2.1 _ _ n e))
      have e4 := nb14 _ _ nfb e1
      have b14 : Bx b H1' H4 := ⟨nb14, b4.2⟩
      have p4 := p1.bx b1.2 b14
      have B4 : Bx b H H4 := ⟨fun a o n e => nb14 _ _ n (b1.1 _ _ n e), b4.2⟩
      clear b14 nb14 b4 b3 b2 hv b1 e1 p1
      refine ⟨_, rfl, rt, rfl, by omega, fun t H5 s5 ht5 => ⟨_, rfl, left, rfl, by omega, fun t2 H6 s6 ht6 => ⟨t, t2, rt, left, rfl, rfl, s6 _ _ ht5, ht6, _, rfl, ?_⟩⟩⟩
      have e6 := (s5.trans s6) _ _ e4
      have p6 := p4.same (s5.trans s6)
      have B6 := bxsm B4 (s5.trans s6)
      clear e4 p4 B4 s5 s6 ht5 ht6
      by_cases hord : OrdL rt left
      · refine iteB (decide_eq_true hord) ?_
        have hql := p6.len
        have hfew := d1.few
        refine ⟨_, rfl, fl, rfl, ⟨_, SqL.of e6⟩, fun D hD => ?_⟩
        refine lc_keepF keep_same (walk_list (K := K) (a := fl) (xs := qs.map V.ref)) hD (by rw [List.length_map, hql]; exact small1000 (by omega)) (fun j => Sub (ps.getD j ([], [])).1 left || Sub left (ps.getD j ([], [])).1) (fun j y _ => y = .str (S (ps.getD j ([], [])).1)) (fun H r => SqL.of (r _ _ e6)) (fun _ _ _ _ _ _ h => h) (fun _ _ _ _ _ _ _ h => h) (fun j x Hx Hy acc N R hj r hDa hy hR hN => ?_) (fun ys H7 hly hg w7 hDs => ?_)
        · obtain ⟨rfl, f1⟩ := hy
          have hjl : j < ps.length := by rw [List.length_map, hql] at hj; exact hj
          obtain ⟨qa, hxq, hqa⟩ := p6.at j hjl
          rw [List.getElem?_map, hxq] at f1
          obtain rfl := Option.some.inj f1
          refine ⟨qa, _, rfl, SqT.of (r _ _ hqa), rfl, _, _, rfl, _, _, rfl, rfl, rfl, ?_⟩
          refine ⟨_, rfl, _, rfl, _, left, rfl, rfl, _, rfl, ?_⟩
          cases h1 : Sub (ps.getD j ([], [])).1 left with
          | true =>
            refine iteB rfl (iteB rfl ?_)
            exact ⟨_, rfl, hR (by rw [h1]; rfl) _ _ (Same.refl _) rfl⟩
          | false =>
            refine iteN rfl ?_
            refine ⟨_, rfl, _, rfl, left, _, rfl, rfl, _, rfl, ?_⟩
            cases h2 : Sub left (ps.getD j ([], [])).1 with
            | true =>
              refine iteB rfl ?_
              exact ⟨_, rfl, hR (by rw [h1, h2]; rfl) _ _ (Same.refl _) rfl⟩
            | false =>
              refine iteN rfl ?_
              exact hN (by rw [h1, h2]; rfl) _ (Same.refl _)
        rw [List.length_map, hql] at hly hg
        generalize hT : takenN (fun j => Sub (ps.getD j ([], [])).1 left || Sub left (ps.getD j ([], [])).1) ps.length = T0 at hly hg
        have ey : ys = txs (T0.map fun j => (ps.getD j ([], [])).1) := by
          unfold txs
          rw [List.map_map]
          exact list_map hly fun j y c e1 e2 => hg j c y e2 e1
        subst ey
        have e7 := w7 _ _ e6
        have p7 := p6.same w7
        have B7 := bxsm B6 w7
        clear e6 p6 B6 w7 hly hg hD
        have hsm : Small (T0.map fun j => (ps.getD j ([], [])).1) := fun l hl c hc => by
          obtain ⟨j, hj, rfl⟩ := List.mem_map.mp hl
          rw [← hT] at hj
          have hjl := List.mem_range.mp (List.mem_filter.mp hj).1
          have hpm : ps.getD j ([], []) ∈ ps := by rw [List.getD_eq_getElem?_getD, List.getElem?_eq_getElem hjl]; exact List.getElem_mem hjl
          have := menu_small hm c ((d1.dn _ hpm).1 c hc)
          omega
        refine ⟨_, rfl, _, rfl, by show 0 ≤ sizeLine; decide, fun e he => ?_⟩
        have w8 := sm_new (o := .lst []) he
        refine ⟨.list ((T0.map fun j => (ps.getD j ([], [])).1).map fun l => .str (S l)), .list [], .lst (SqL.of (w8 _ _ hDs)) (dp_strs _), .lst (SqL.of upd_same) .nil, shaped_lst hsm, shaped_lst (xs := []) (fun _ h => nomatch h), _, rfl, ?_⟩
        rw [show PyData.eqv (.list ((T0.map fun j => (ps.getD j ([], [])).1).map fun l => .str (S l))) (.list []) = _ from eqv_strs _ []]
        have e8 := w8 _ _ e7
        have p8 := p7.same w8
        have B8 := bxsm B7 w8
        generalize upd H7 e (.lst []) = H8 at e8 p8 B8 ⊢
        clear e7 p7 B7 w8 he hDs hsm
        by_cases hT0 : T0 = []
        · refine iteB (decide_eq_true (by rw [hT0]; rfl)) ?_
          refine ⟨_, rfl, _, rfl, by show 2 ≤ sizeLine; decide, fun u hu => ⟨by show 1 ≤ sizeLine; decide, fun l hl => ?_⟩⟩
          have wu := sm_new (o := .tup [.str (S left), .str (S rt)]) hu
          have wl := wu.trans (sm_new (o := .lst [.ref u]) hl)
          have hu9 : (upd (upd H8 u (.tup [.str (S left), .str (S rt)])) l (.lst [.ref u])) u = some (.tup [.str (S left), .str (S rt)]) := sm_new hl _ _ upd_same
          have hl9 : (upd (upd H8 u (.tup [.str (S left), .str (S rt)])) l (.lst [.ref u])) l = some (.lst [.ref u]) := upd_same
          have e9 := wl _ _ e8
          have p9 := p8.same wl
          have B9 := bxsm B8 wl
          generalize upd (upd H8 u (.tup [.str (S left), .str (S rt)])) l (.lst [.ref u]) = H9 at hu9 hl9 e9 p9 B9 ⊢
          refine ⟨fl, l, _, _, rfl, rfl, e9, hl9, by rw [List.length_map, hql]; exact Nat.le_of_lt (small1000 (by simp; omega)), fun g' hg' => ?_⟩
          have wg := sm_new (o := .lst (qs.map V.ref ++ [.ref u])) hg'
          have p10 : PrAt H9 (qs ++ [u]) (ps ++ [(left, rt)]) := pr_snoc p9 hu9
          refine ⟨g', qs ++ [u], ps ++ [(left, rt)], _, _, _, _, rfl, bxsm B9 wg, B9.free hg', by rw [upd_same, List.map_append]; rfl, p10.same wg, ?_, ?_, ?_, ?_⟩
          · intro p hp
            rcases List.mem_append.mp hp with hp | hp
            · exact d1.dn p hp
            · rw [List.mem_singleton.mp hp]; exact ⟨hlo, hor, hord⟩
          · intro p hp
            rcases List.mem_append.mp hp with hp | hp
            · exact d1.short p hp
            · rw [List.mem_singleton.mp hp]; exact hll
          · rw [List.length_append, List.length_singleton]; omega
          · rw [List.map_append]
            refine noSub_add d1.ns fun x hx => ?_
            obtain ⟨p, hp, rfl⟩ := List.mem_map.mp hx
            obtain ⟨j, hj⟩ := List.getElem?_of_mem hp
            have hjl := (List.getElem?_eq_some_iff.mp hj).1
            have hgd : ps.getD j ([], []) = p := by rw [List.getD_eq_getElem?_getD, hj]; rfl
            rw [hT0] at hT
            have := List.filter_eq_nil_iff.mp hT j (List.mem_range.mpr hjl)
            rw [hgd, Bool.or_eq_true, not_or, Bool.not_eq_true, Bool.not_eq_true] at this
            exact this
        · refine iteN (decide_eq_false fun h => hT0 (by simpa using h)) ?_
          refine ⟨by show 0 ≤ sizeLine; decide, fun l hl => ?_⟩
          have wl := sm_new (o := .lst []) hl
          refine ⟨fl, l, _, _, rfl, rfl, wl _ _ e8, upd_same, by rw [List.length_map, hql]; exact Nat.le_of_lt (small1000 (by simp; omega)), fun g' hg' => ?_⟩
          have B9 := bxsm B8 wl
          have wg := sm_new (o := .lst (qs.map V.ref ++ [])) hg'
          exact ⟨g', qs, ps, _, _, _, _, rfl, bxsm B9 wg, B9.free hg', by rw [upd_same, List.append_nil], (p8.same wl).same wg, ⟨d1.dn, d1.short, Nat.le_succ_of_le d1.few, d1.ns⟩⟩
      · refine iteN (decide_eq_false hord) ?_
        exact ⟨fl, qs, ps, _, _, _, _, rfl, B6, hfl, e6, p6, ⟨d1.dn, d1.short, Nat.le_succ_of_le d1.few, d1.ns⟩⟩
    · rintro σ H1 ⟨fl, qs, ps, s4, s5, s6, s7, rfl, b1, hfl, e1, p1, d1⟩
      rw [en] at d1
      exact ⟨_, rfl, k fl qs ps H1 b1 hfl e1 p1 d1⟩
end
end Toy
set_option maxHeartbeats 4000000
namespace LX
open PySem PySem.Spec PyProof.Rows L2 C8 SX ClX
structure CalK (P : Program) (w : World) (K : PySem.W.Frag) (mg : Str → Option Value) (base : Heap) (k : Nat) (x : Str) (ks : List Str) (gV : List V → List V → List V) (sp : Sp) : Prop where
  ex : ∃ (f : Addr) (fd : FuncData) (ps : List Str) (g : List Value → List Value → List Value), FnOk P w K mg base C8.CX0 k f fd ps sp ∧ mg x = some (.ref f) ∧ PySem.W.keepIn K (.ref f) = true ∧ KBn K fd ps 0 ks g gV
def tCallK0 (n : Nat) (sp : Sp) (gV : List V → List V → List V) (tk : TA) : TE := fun σ H Q => tk σ H fun zs H2 => zs.length = n ∧ sp (gV [] zs) H2 Q C8.E0
structure MetK (P : Program) (w : World) (K : PySem.W.Frag) (mg : Str → Option Value) (base : Heap) (k : Nat) (C : Addr) (m : Str) (ks : List Str) (gV : List V → List V → List V) (sp : Sp) : Prop where
  ex : ∃ (f : Addr) (fd : FuncData) (ps : List Str) (g : List Value → List Value → List Value), Cls K C ∧ Meth K C m f ∧ FnOk P w K mg base C8.CX0 k f fd ps sp ∧ KBn K fd ps 1 ks g gV
def tMethK0 (C : Addr) (m : Str) (n : Nat) (sp : Sp) (gV : List V → List V → List V) (te tk : TA) (ta : TE) : TE := fun σ H Q => ta σ H fun x H1 => ∃ a dx fs, x = V.ref a ∧ H1 a = some (.ins C dx fs) ∧ fs.lookup m = none ∧ tk σ H1 fun zs H2 => zs.length = n ∧ sp (gV [.ref a] zs) H2 Q C8.E0
structure CMK (P : Program) (w : World) (K : PySem.W.Frag) (mg : Str → Option Value) (base : Heap) (k : Nat) (C : Addr) (m : Str) (ks : List Str) (gV : List V → List V → List V) (sp : Sp) : Prop where
  ex : ∃ (p g : Addr) (fd : FuncData) (ps : List Str) (mc : Value) (gg : List Value → List Value → List Value), CRead K C mc ∧ CMet K C mc m p g ∧ FnOk P w K mg base (L2.CX P w) k g fd ps sp ∧ KBn K fd ps 1 ks gg gV
def tCMK (C : Addr) (n : Nat) (sp : Sp) (gV : List V → List V → List V) (E : L2.St → XK) (ta : TE) (tk : TA) : TE := fun σ H Q => ta σ H fun x H1 => x = .ref C ∧ tk σ H1 fun zs H2 => zs.length = n ∧ sp (gV [.ref C] zs) H2 Q (E σ)
section
variable {X : Cx} {k j : Nat} {C : Addr} {sp : Sp} {x m : Str} {ks : List Str} {p pos apos : Pos} {tk : TA} {ta : TE} {kws : List Keyword} {W : WX} {gV : List V → List V → List V} {o : Expr} {pl : Sem Bool}
theorem pe_cK (c : CalK X.prog X.w X.K X.mg X.base k x ks gV sp) (hr : Room j X.A) (hk : k ≤ j) (hg : Gl X x) (hkw : PK X kws tk) (hall : (backToKw pos (keywordEach kws X.env)).all (·.1.isSome) = true := by rfl) (hks : (backToKw pos (keywordEach kws X.env)).filterMap (·.1) = ks := by rfl)
    (hdb : (x == ("__debug__" : Str)) = false := by decide)
    (hpl : ((backTo pos (starEach [] X.env)).any (·.1) || (backToKw pos (keywordEach kws X.env)).any (·.1.isNone)) = false := by rfl) : PE X (.Call (.Name x p) [] kws pos) (tCallK0 ks.length sp gV tk) := by
  obtain ⟨f, fd, ps, g, F, hm, kp, kb⟩ := c.ex
  refine ⟨fun pins s σ H Q I h => ?_⟩
  refine wpAny_Call_Name_kw (ld_glob I hg hm ?_ hdb)
  refine PySem.W.callWith_KW0 (h₀ := X.base) I.ok.mod.kin kp hall (thn (hkw.run pos pins s σ H _ I h) fun ws s2 ⟨zs, H2, I2, rz, hz, q2⟩ => ⟨I2.kIn, ?_⟩) hpl
  rw [hks]
  exact run_fnN F (hr.mono hk) kb C8.pass0 I2 .nil rz rfl hz q2
theorem pe_mtK (c : MetK X.prog X.w X.K X.mg X.base k C m ks gV sp) (hr : Room j X.A) (hk : k ≤ j) (he : PE X o ta) (hkw : PK X kws tk) (hall : (backToKw pos (keywordEach kws X.env)).all (·.1.isSome) = true := by rfl) (hks : (backToKw pos (keywordEach kws X.env)).filterMap (·.1) = ks := by rfl)
    (hpl : ((backTo pos (starEach [] X.env)).any (·.1) || (backToKw pos (keywordEach kws X.env)).any (·.1.isNone)) = false := by rfl)
    (ht : eval (.Call (.Attribute o m apos) [] kws pos) X.env = (do
      let ov ← eval o X.env
      standAt apos.atName
      let (f, first) ← holding [ov] (getMethod ov m pl)
      callWith pos f first (backTo pos (starEach [] X.env)) (backToKw pos (keywordEach kws X.env))) := by rfl) :
    PE X (.Call (.Attribute o m apos) [] kws pos) (tMethK0 C m ks.length sp gV tNil tk ta) := by
  obtain ⟨f, fd, ps, g, cl, me, F, kb⟩ := c.ex
  refine ⟨fun pins s σ H Q I h => ?_⟩
  refine PySem.W.methodCall_KW (pl := pl) (thn (he.run pins s σ H _ I h) fun u s1 ⟨x, H1, I1, rx, a, dx, fs, ex, ea, l, q⟩ => ?_) ht
  subst ex
  obtain rfl : u = Value.ref a := rx
  refine getmeth_ok I1 ea cl me l ?_
  refine PySem.W.callWith_KW0 (first := [.ref a]) (h₀ := X.base) I.ok.mod.kin me.kp hall (thn (hkw.run pos pins s1 σ H1 _ I1 q) fun ws s2 ⟨zs, H2, I2, rz, hz, q2⟩ => ⟨I2.kIn, ?_⟩) hpl
  rw [hks]
  exact run_fnN (us := [.ref a]) (vs := [.ref a]) F (hr.mono hk) kb C8.pass0 I2 (.cons rfl .nil) rz rfl hz q2
theorem pe_cmK (c : CMK X.prog X.w X.K X.mg X.base k C m ks gV sp) (tk' : Takes X W) (hr : Room j X.A) (hk : k ≤ j) (he : PE X o ta) (hkw : PK X kws tk) (hall : (backToKw pos (keywordEach kws X.env)).all (·.1.isSome) = true := by rfl) (hks : (backToKw pos (keywordEach kws X.env)).filterMap (·.1) = ks := by rfl)
    (hpl : ((backTo pos (starEach [] X.env)).any (·.1) || (backToKw pos (keywordEach kws X.env)).any (·.1.isNone)) = false := by rfl)
    (ht : eval (.Call (.Attribute o m apos) [] kws pos) X.env = (do
      let ov ← eval o X.env
      standAt apos.atName
      let (f, first) ← holding [ov] (getMethod ov m pl)
      callWith pos f first (backTo pos (starEach [] X.env)) (backToKw pos (keywordEach kws X.env))) := by rfl) :
    PE X (.Call (.Attribute o m apos) [] kws pos) (tCMK C ks.length sp gV (WE W) ta tk) := by
  obtain ⟨p, g, fd, ps, mc, gg, r, cm, F, kb⟩ := c.ex
  refine ⟨fun pins s σ H Q I h => ?_⟩
  refine PySem.W.methodCall_KW (pl := pl) (thn (he.run pins s σ H _ I h) fun u s1 ⟨x, H1, I1, rx, ex, q⟩ => ?_) ht
  subst ex
  obtain rfl : u = Value.ref C := rx
  refine getmethcm_ok I1 r cm fun s2 I2 => ?_
  refine PySem.W.callWith_of hpl (PySem.W.keeps_M cm.fi) (evalArgs_kw2_nil hall (thn (hkw.run pos _ s2 σ H1 _ I2 q) fun ws s3 ⟨zs, H2, I3, rz, hz, q2⟩ => ⟨⟨pin_at I3, I3.kIn⟩, ?_⟩))
  rw [hks]
  have r2 := kb.rel (vs := [V.ref C]) (us := [Value.ref C]) (.cons rfl .nil) rz
  have e2 : ws.length = ks.length := rz.length.symm.trans hz
  have z : wpAny (model X.prog X.w) X.A (call (.ref s1.heap.objs.size) ([] ++ []) (ks.zip ws)) (EP X ((s1.heap.objs.size, PySem.W.methodObj (.ref g) (.ref C)) :: pins) σ Q) X.xe s3 :=
    wpAny_call (PySem.W.method_call (pin_at I3) (codeAny_mono (F.run X.A X.stack s3 H2 ⟨[.ref C], ks.zip ws⟩ (gg [.ref C] ws) _ Q (WE W σ) (hr.mono hk) I3.env0 (kb.to _ [.ref C] ws I3.kIn rfl e2) r2 q2) fun r s' hq => by
      cases r with
      | error e => exact passAt tk' σ _ H2 s3 e s' I3 hq
      | ok fl =>
        cases fl with
        | ret u => exact I3.after hq
        | next => exact False.elim hq
        | brk => exact False.elim hq
        | cont => exact False.elim hq))
  exact thn z fun _ _ y => unpinE y
end
end LX
set_option maxHeartbeats 2000000
namespace Toy
open PySem L2 C8 SX LX
theorem rev_rel {vs zs : List V} {us ws : List Value} (h1 : Vals vs us) (h2 : Vals zs ws) : Vals (vs ++ zs.reverse) (us ++ ws.reverse) := by
  have app : ∀ {a b : List V} {c d : List Value}, Vals a c → Vals b d → Vals (a ++ b) (c ++ d) := fun {a b c d} h g => by
    induction h with
    | nil => exact g
    | cons e _ ih => exact .cons e ih
  have rev : ∀ {a : List V} {c : List Value}, Vals a c → Vals a.reverse c.reverse := fun {a c} h => by
    induction h with
    | nil => exact .nil
    | cons e _ ih => rw [List.reverse_cons, List.reverse_cons]; exact app ih (.cons e .nil)
  exact app h1 (rev h2)
def revV (vs zs : List V) : List V := vs ++ zs.reverse
def revL (us ws : List Value) : List Value := us ++ ws.reverse
theorem at_iff {a b : List Nat} {i : Nat} : StrLaws.At (S b) (S a) (S b).length i ↔ i + a.length ≤ b.length ∧ (b.drop i).take a.length = a := by
  unfold StrLaws.At
  rw [PySem.StrLaws.subAt_eq, S_len, S_len]
  have e1 : (S a).cps.toList = a := by simp [S]
  have e2 : (S b).cps.toList = b := by simp [S]
  rw [e1, e2, beq_iff_eq]
theorem sub_iff {a b : List Nat} : Sub a b = true ↔ ∃ i, i + a.length ≤ b.length ∧ (b.drop i).take a.length = a := by
  unfold LX.Sub
  rcases StrLaws.occ_head (S b) (S a) 1 (Nat.le_refl _) with ⟨e, hn⟩ | ⟨i, r, e, ha, _⟩
  · rw [e]
    refine ⟨fun h => (by cases h), fun ⟨i, h⟩ => absurd (at_iff.mpr h) (hn i)⟩
  · rw [e]
    exact ⟨fun _ => ⟨i, at_iff.mp ha⟩, fun _ => rfl⟩
theorem sub_self (a : List Nat) : Sub a a = true := sub_iff.mpr ⟨0, by simp, by simp⟩
theorem Drawn.nd {sg : List Nat} {ps : Ps} {n : Nat} (h : Drawn sg ps n) {i j : Nat} (hi : i < ps.length) (hj : j < ps.length) (hij : i ≠ j) : (ps.getD i ([], [])).1 ≠ (ps.getD j ([], [])).1 := fun e => by
  have := noSub_iff.mp h.ns i j (by simpa using hi) (by simpa using hj) (Ne.symm hij)
  have e1 : (ps.map (·.1)).getD i [] = (ps.getD i ([], [])).1 := by simp [List.getD_eq_getElem?_getD, List.getElem?_eq_getElem hi]
  have e2 : (ps.map (·.1)).getD j [] = (ps.getD j ([], [])).1 := by simp [List.getD_eq_getElem?_getD, List.getElem?_eq_getElem hj]
  rw [e1, e2, e, sub_self] at this
  cases this
theorem Drawn.rev {sg : List Nat} {ps : Ps} {n : Nat} (h : Drawn sg ps n) (hl : 1 < ps.length) : ps ≠ ps.reverse := fun e => by
  refine h.nd (i := 0) (j := ps.length - 1) (by omega) (by omega) (by omega) ?_
  have : ps.reverse[0]? = ps[ps.length - 1]? := by rw [List.getElem?_reverse (by omega)]; rfl
  rw [← e] at this
  rw [List.getD_eq_getElem?_getD, List.getD_eq_getElem?_getD, this]
theorem Drawn.revd {sg : List Nat} {ps : Ps} {n : Nat} (h : Drawn sg ps n) : Drawn sg ps.reverse n := ⟨fun p hp => h.dn p (List.mem_reverse.mp hp), fun p hp => h.short p (List.mem_reverse.mp hp), by rw [List.length_reverse]; exact h.few, noSub_iff.mpr fun i j hi hj hij => by
  rw [List.length_map, List.length_reverse] at hi hj
  have e : ∀ k, k < ps.length → (ps.reverse.map (·.1)).getD k [] = (ps.map (·.1)).getD (ps.length - 1 - k) [] := fun k hk => by
    rw [List.getD_eq_getElem?_getD, List.getD_eq_getElem?_getD, List.getElem?_map, List.getElem?_map, List.getElem?_reverse hk]
  rw [e i hi, e j hj]
  exact noSub_iff.mp h.ns _ _ (by rw [List.length_map]; omega) (by rw [List.length_map]; omega) (by omega)⟩
theorem menu_sg {sg : List Nat} (h : Menu sg) : Sg sg := by
  rcases menu_cases h with rfl | rfl | rfl | rfl <;> exact ⟨by decide, by decide, by decide, by decide⟩
theorem ordL_len {a b : List Nat} (h : OrdL a b) : a.length ≤ b.length := by
  unfold OrdL at h; omega
theorem okD_S {l : List Nat} (h1 : l.length ≤ 40) (h2 : ∀ c ∈ l, c < 1114112) : okD (.str (S l)) = true := by
  unfold okD
  rw [Bool.and_eq_true, decide_eq_true_eq, S_len]
  refine ⟨h1, List.all_eq_true.mpr fun c hc => decide_eq_true (h2 c (by simpa [S] using hc))⟩
section
variable {sg : List Nat} {ps : Ps} {n : Nat}
theorem Drawn.small (hm : Menu sg) (h : Drawn sg ps n) : SmallP ps := fun p hp => by
  obtain ⟨h1, h2, _⟩ := h.dn p hp
  exact ⟨fun c hc => by have := menu_small hm c (h1 c hc); omega, fun c hc => by have := menu_small hm c (h2 c hc); omega⟩
theorem Drawn.ok (hm : Menu sg) (hn : n ≤ 20) (h : Drawn sg ps n) (b : Bool) : okD (seqD b (ps.map prD)) = true := by
  have hs := h.small hm
  have : ∀ d ∈ ps.map prD, okD d = true := fun d hd => by
    obtain ⟨p, hp, rfl⟩ := List.mem_map.mp hd
    have h1 := h.short p hp
    have h2 := ordL_len (h.dn p hp).2.2
    refine okD_tup (by show 2 ≤ 20; decide) fun x hx => ?_
    rcases List.mem_cons.mp hx with rfl | hx
    · exact okD_S (by omega) (hs p hp).1
    · rw [List.mem_singleton.mp hx]; exact okD_S (by omega) (hs p hp).2
  have hf := h.few
  cases b
  · exact okD_tup (by rw [List.length_map]; omega) this
  · exact okD_lst (by rw [List.length_map]; omega) this
theorem Drawn.pairs (h : Drawn sg ps n) (b : Bool) : pairsD sg (seqD b (ps.map prD)) = true := by
  unfold pairsD
  rw [items_seq]
  show (((ps.map prD).map (pairD sg)).all id && noSub ((ps.map prD).map leftD)) = true
  rw [left_pr, h.ns, Bool.and_true, List.all_eq_true]
  intro x hx
  obtain ⟨d, hd, rfl⟩ := List.mem_map.mp hx
  obtain ⟨p, hp, rfl⟩ := List.mem_map.mp hd
  obtain ⟨h1, h2, h3⟩ := h.dn p hp
  show (rowO sg (txtO (.str (S p.1))) && (rowO sg (txtO (.str (S p.2))) && decide (OrdL ((txtO (.str (S p.2))).getD []) ((txtO (.str (S p.1))).getD [])))) = true
  rw [txt_S, txt_S]
  have e : ∀ l, Ov sg l → rowO sg (some l) = true := fun l hl => decide_eq_true hl
  rw [e _ h1, e _ h2]
  exact decide_eq_true h3
end
section
variable {P : Program} {w : World} {K : PySem.W.Frag} {mg : Str → Option Value} {base : Heap}
theorem make_use {C CI p q dx : Addr} {b : Bool} {H : Hp} {R : VK} {E : XK} {sg : List Nat} {ps : Ps} {n : Nat} (hm : Menu sg) (hn : n ≤ 20) (g : Drawn sg ps n) (hp : Dp K H (.ref p) (seqD b (ps.map prD))) (hq : H q = none) (hdx : H dx = none) (nx : dx ≠ q) (k : ∀ (H' : Hp), Same H H' → Rul K C H' q sg ps → R .non H') :
    spInitR K C CI (.ref q :: [.str (S sg), .ref p]) (upd (upd H dx (.own q)) q (.ins C dx [])) R E := by
  have s1 : Same H (upd (upd H dx (.own q)) q (.ins C dx [])) := fun b o e => by rw [upd_ne (ne_of_none e hq), upd_ne (ne_of_none e hdx)]; exact e
  have hsg := menu_sg hm
  have hdue := due_none hsg (g.pairs b)
  refine ⟨q, dx, .str (S sg), .ref p, .str (S sg), _, rfl, upd_same, .str _, dp_same s1 _ _ hp, okD_S (by have := hsg.2.2.1; omega) (fun c hc => by have := hsg.2.2.2 c hc; omega), g.ok hm hn b, fun wd hw => (by rw [hdue] at hw; cases hw), fun sg' ps' _ ex1 _ ex2 _ H8 hk hch => ?_⟩
  have es : sg = sg' := by simpa [S] using ex1
  rw [items_seq] at ex2
  have ei := map_prD_inj (Option.some.inj ex2)
  subst es ei
  exact k H8 (fun c o e => hk c o (ne_of_none e hq) (s1 _ _ e)) hch
theorem PrAt.lst {H : Hp} {pl : Addr} {qs : List Addr} {ps : Ps} (h : PrAt H qs ps) (e : H pl = some (.lst (qs.map V.ref))) : Dp K H (.ref pl) (seqD true (ps.map prD)) := .lst (SqL.of e) h.dp
theorem PrAt.tup {H : Hp} {pl : Addr} {qs : List Addr} {ps : Ps} (h : PrAt H qs ps) (e : H pl = some (.tup (qs.map V.ref))) : Dp K H (.ref pl) (seqD false (ps.map prD)) := .tup (SqT.of e) h.dp
theorem pr_rev {α β : Type} {F : α → β → Prop} {as : List α} {bs : List β} (h : Paired F as bs) : Paired F as.reverse bs.reverse := by
  induction h with
  | nil => exact .nil
  | cons h1 _ ih => rw [List.reverse_cons, List.reverse_cons]; exact pr_snoc ih h1
end
end Toy
set_option autoImplicit false
namespace K60
def Stp (ps : Ps) (a b : Tx) : Prop := ∃ x z, ∃ p ∈ ps, a = x ++ p.1 ++ z ∧ b = x ++ p.2 ++ z
theorem getD_mem2 {ps : Ps} {n : Nat} (h : n < ps.length) : ps.getD n ([], []) ∈ ps := by
  rw [List.getD_eq_getElem?_getD, List.getElem?_eq_getElem h]; exact List.getElem_mem h
theorem stp_of_move {ps : Ps} {r : Tx} {m : Mv} (hm : m ∈ movesL ps r) : Stp ps r (afterL ps r m) := by
  obtain ⟨h1, h2, h3⟩ := mem_moves.mp hm
  exact ⟨_, _, _, getD_mem2 h2, hit_form h3, rfl⟩
theorem Stp.ctx {ps : Ps} {a b : Tx} (h : Stp ps a b) (x z : Tx) : Stp ps (x ++ a ++ z) (x ++ b ++ z) := by
  obtain ⟨u, v, p, hp, rfl, rfl⟩ := h
  exact ⟨x ++ u, v ++ z, p, hp, by simp [List.append_assoc], by simp [List.append_assoc]⟩
inductive Rch (ps : Ps) : Tx → Tx → Prop
  | refl {a : Tx} : Rch ps a a
  | step {a b c : Tx} : Stp ps a b → Rch ps b c → Rch ps a c
theorem Rch.one {ps : Ps} {a b : Tx} (h : Stp ps a b) : Rch ps a b := .step h .refl
theorem Rch.trans {ps : Ps} {a b c : Tx} (h : Rch ps a b) : Rch ps b c → Rch ps a c := by
  induction h with
  | refl => exact id
  | step h _ ih => exact fun g => .step h (ih g)
theorem Rch.ctx {ps : Ps} {a b : Tx} (h : Rch ps a b) (x z : Tx) : Rch ps (x ++ a ++ z) (x ++ b ++ z) := by
  induction h with
  | refl => exact .refl
  | step h _ ih => exact .step (h.ctx x z) ih
theorem move_of_stp {ps : Ps} {a b : Tx} (hpos : ∀ p ∈ ps, 1 ≤ p.1.length) (h : Stp ps a b) : ∃ m ∈ movesL ps a, afterL ps a m = b := by
  obtain ⟨x, z, p, hp, rfl, rfl⟩ := h
  obtain ⟨n, hn⟩ := List.getElem?_of_mem hp
  have hl := (List.getElem?_eq_some_iff.mp hn).1
  have hg : ps.getD n ([], []) = p := by rw [List.getD_eq_getElem?_getD, hn]; rfl
  have h1 := hpos p hp
  have ed : (x ++ p.1 ++ z).drop x.length = p.1 ++ z := by rw [List.append_assoc, List.drop_left]
  refine ⟨(x.length, n), mem_moves.mpr ⟨by simp only [List.length_append]; omega, hl, ?_⟩, ?_⟩
  · unfold hit
    rw [hg, ed, List.take_left]
    exact decide_eq_true rfl
  · unfold afterL
    show (x ++ p.1 ++ z).take x.length ++ (ps.getD n ([], [])).2 ++ (x ++ p.1 ++ z).drop (x.length + (ps.getD n ([], [])).1.length) = _
    rw [hg, ← List.drop_drop, ed, List.drop_left, List.append_assoc x, List.take_left]
theorem nf_rch {ps : Ps} {e z : Tx} (hpos : ∀ p ∈ ps, 1 ≤ p.1.length) (h : movesL ps e = []) (hr : Rch ps e z) : z = e := by
  cases hr with
  | refl => rfl
  | step h1 _ =>
    obtain ⟨m, hm, _⟩ := move_of_stp hpos h1
    rw [h] at hm; cases hm
theorem road_rch {ps : Ps} {r e : Tx} {ms : List Mv} (h : Road ps r ms e) : Rch ps r e := by
  induction h with
  | stop _ => exact .refl
  | go h _ ih => exact .step (stp_of_move (by rw [h]; exact List.mem_cons_self)) ih
def Ovl (ps : Ps) (a b row : Tx) : Prop := ∃ p ∈ ps, ∃ q ∈ ps, ∃ u v w : Tx, u ≠ [] ∧ v ≠ [] ∧ w ≠ [] ∧ p.1 = u ++ v ∧ q.1 = v ++ w ∧ row = u ++ v ++ w ∧ a = p.2 ++ w ∧ b = u ++ q.2
theorem Ovl.stp1 {ps : Ps} {a b row : Tx} (h : Ovl ps a b row) : Stp ps row a := by
  obtain ⟨p, hp, q, hq, u, v, w, _, _, _, e1, e2, rfl, rfl, rfl⟩ := h
  exact ⟨[], w, p, hp, by rw [e1]; simp, by simp⟩
theorem Ovl.stp2 {ps : Ps} {a b row : Tx} (h : Ovl ps a b row) : Stp ps row b := by
  obtain ⟨p, hp, q, hq, u, v, w, _, _, _, e1, e2, rfl, rfl, rfl⟩ := h
  exact ⟨u, [], q, hq, by rw [e2]; simp, by simp⟩
def Joined (ps : Ps) (a b : Tx) : Prop := ∃ z, Rch ps a z ∧ Rch ps b z
theorem Joined.symm {ps : Ps} {a b : Tx} (h : Joined ps a b) : Joined ps b a := let ⟨z, h1, h2⟩ := h; ⟨z, h2, h1⟩
def NoIn (ps : Ps) : Prop := ∀ p ∈ ps, ∀ q ∈ ps, ∀ u w : Tx, p.1 = u ++ q.1 ++ w → p = q
theorem nil_of_same {u w q : Tx} (h : q = u ++ q ++ w) : u = [] ∧ w = [] := by
  have := congrArg List.length h
  simp only [List.length_append] at this
  exact ⟨List.length_eq_zero_iff.mp (by omega), List.length_eq_zero_iff.mp (by omega)⟩
theorem conf_core {ps : Ps} (hn : NoIn ps) (hj : ∀ a b row, Ovl ps a b row → Joined ps a b) {p q : Tx × Tx} (hp : p ∈ ps) (hq : q ∈ ps) {x u z1 z2 : Tx} (h : p.1 ++ z1 = u ++ (q.1 ++ z2)) : Joined ps (x ++ p.2 ++ z1) (x ++ u ++ q.2 ++ z2) := by
  rcases List.append_eq_append_iff.mp h with ⟨v, hu, hz⟩ | ⟨v, hv, hz⟩
  · subst hu hz
    refine ⟨x ++ p.2 ++ v ++ q.2 ++ z2, .one ⟨x ++ p.2 ++ v, z2, q, hq, by simp [List.append_assoc], rfl⟩, .one ⟨x, v ++ q.2 ++ z2, p, hp, by simp [List.append_assoc], by simp [List.append_assoc]⟩⟩
  · rcases List.append_eq_append_iff.mp hz with ⟨w, hw, hz2⟩ | ⟨w, hw, hz1⟩
    ·
      have hpq := hn p hp q hq u w (by rw [hv, hw, List.append_assoc])
      subst hpq
      obtain ⟨rfl, rfl⟩ := nil_of_same (u := u) (w := w) (q := p.1) (by conv => lhs; rw [hv, hw, ← List.append_assoc])
      rw [hz2]
      exact ⟨x ++ p.2 ++ z1, .refl, by simp only [List.append_nil, List.nil_append]; exact .refl⟩
    · by_cases h1 : v = []
      · subst h1
        rw [List.append_nil] at hv
        rw [List.nil_append] at hw
        subst hz1
        rw [← hv, ← hw]
        exact ⟨x ++ p.2 ++ q.2 ++ z2, .one ⟨x ++ p.2, z2, q, hq, by simp [List.append_assoc], rfl⟩, .one ⟨x, q.2 ++ z2, p, hp, by simp [List.append_assoc], by simp [List.append_assoc]⟩⟩
      · by_cases h2 : u = []
        · subst h2
          rw [List.nil_append] at hv
          have hpq := hn q hq p hp [] w (by rw [hw, hv]; rfl)
          subst hpq
          obtain ⟨_, rfl⟩ := nil_of_same (u := []) (w := w) (q := q.1) (by rw [List.nil_append]; exact hw.trans (by rw [hv]))
          rw [hz1]
          exact ⟨x ++ q.2 ++ z2, by simp only [List.nil_append]; exact .refl, by simp only [List.append_nil]; exact .refl⟩
        · by_cases h3 : w = []
          · subst h3
            rw [List.append_nil] at hw
            have hpq := hn p hp q hq u [] (by rw [hv, hw, List.append_nil])
            subst hpq
            have := congrArg List.length hv
            rw [hw, List.length_append] at this
            exact absurd (List.length_eq_zero_iff.mp (show u.length = 0 by omega)) h2
          · obtain ⟨z, r1, r2⟩ := hj _ _ _ ⟨p, hp, q, hq, u, v, w, h2, h1, h3, hv, hw, rfl, rfl, rfl⟩
            subst hz1
            refine ⟨x ++ z ++ z2, ?_, ?_⟩
            · have := r1.ctx x z2
              simp only [List.append_assoc] at this ⊢; exact this
            · have := r2.ctx x z2
              simp only [List.append_assoc] at this ⊢; exact this
theorem local_conf {ps : Ps} (hn : NoIn ps) (hj : ∀ a b row, Ovl ps a b row → Joined ps a b) {r a b : Tx} (h1 : Stp ps r a) (h2 : Stp ps r b) : Joined ps a b := by
  obtain ⟨x1, z1, p, hp, rfl, rfl⟩ := h1
  obtain ⟨x2, z2, q, hq, e, rfl⟩ := h2
  rw [List.append_assoc, List.append_assoc] at e
  rcases List.append_eq_append_iff.mp e with ⟨u, hx, h⟩ | ⟨u, hx, h⟩
  · subst hx
    exact conf_core hn hj hp hq h
  · subst hx
    exact (conf_core hn hj hq hp h).symm
section
variable {sg : Tx} {ps : Ps} (h3 : sg.length ≤ 3) (hs : sg.Pairwise (· < ·)) (hd : Down sg ps) (hpos : ∀ p ∈ ps, 1 ≤ p.1.length)
include h3 hs hd hpos
theorem stp_down {a b : Tx} (ha : ∀ c ∈ a, c ∈ sg) (h : Stp ps a b) : (∀ c ∈ b, c ∈ sg) ∧ rk sg b < rk sg a ∧ b.length ≤ a.length := by
  obtain ⟨m, hm, rfl⟩ := move_of_stp hpos h
  have hv := after_ov hd ha (mem_moves.mp hm).2.1
  have ho := after_ord hd hm
  refine ⟨hv, rk_ord h3 hs hv ha ho, ?_⟩
  rcases ho with ho | ho
  · omega
  · have := ho.1; omega
theorem rch_down {a b : Tx} (h : Rch ps a b) : (∀ c ∈ a, c ∈ sg) → (∀ c ∈ b, c ∈ sg) ∧ b.length ≤ a.length := by
  induction h with
  | refl => exact fun h => ⟨h, Nat.le_refl _⟩
  | step h1 _ ih =>
    intro ha
    obtain ⟨g1, _, g2⟩ := stp_down h3 hs hd hpos ha h1
    obtain ⟨g3, g4⟩ := ih g1
    exact ⟨g3, Nat.le_trans g4 g2⟩
theorem nf_ex : ∀ (n : Nat) (a : Tx), rk sg a = n → (∀ c ∈ a, c ∈ sg) → ∃ ms e, Road ps a ms e := by
  intro n
  induction n using Nat.strongRecOn with
  | _ n ih =>
    intro a hn ha
    cases hm : movesL ps a with
    | nil => exact ⟨[], a, .stop hm⟩
    | cons m t =>
      obtain ⟨g1, g2, _⟩ := stp_down h3 hs hd hpos ha (stp_of_move (show m ∈ movesL ps a by rw [hm]; exact List.mem_cons_self))
      obtain ⟨ms, e, hr⟩ := ih _ (by omega) _ rfl g1
      exact ⟨m :: ms, e, .go hm hr⟩
theorem nf_uniq (hn : NoIn ps) (hj : ∀ a b row, Ovl ps a b row → Joined ps a b) : ∀ (n : Nat) (r : Tx), rk sg r = n → (∀ c ∈ r, c ∈ sg) → ∀ e1 e2, Rch ps r e1 → Rch ps r e2 → movesL ps e1 = [] → movesL ps e2 = [] → e1 = e2 := by
  intro n
  induction n using Nat.strongRecOn with
  | _ n ih =>
    intro r hrk hr e1 e2 r1 r2 n1 n2
    cases r1 with
    | refl => exact (nf_rch hpos n1 r2).symm
    | @step _ a _ s1 t1 =>
      cases r2 with
      | refl => exact nf_rch hpos n2 (.step s1 t1)
      | @step _ b _ s2 t2 =>
        obtain ⟨z, j1, j2⟩ := local_conf hn hj s1 s2
        obtain ⟨ha, ka, _⟩ := stp_down h3 hs hd hpos hr s1
        obtain ⟨hb, kb, _⟩ := stp_down h3 hs hd hpos hr s2
        obtain ⟨hz, _⟩ := rch_down h3 hs hd hpos j1 ha
        obtain ⟨ms, e, hroad⟩ := nf_ex h3 hs hd hpos _ z rfl hz
        have rz := road_rch hroad
        have nz := hroad.done
        have g1 := ih _ (by omega) a rfl ha e1 e t1 (j1.trans rz) n1 nz
        have g2 := ih _ (by omega) b rfl hb e2 e t2 (j2.trans rz) n2 nz
        rw [g1, g2]
end
abbrev Tri := Tx × Tx × Tx
instance (a b : Tx) : Decidable (Ord a b) := by unfold Ord; infer_instance
def srt (a b : Tx) : Tx × Tx := if Ord b a then (b, a) else (a, b)
def tOf (p q : Tx × Tx) (m : Nat) : Tri := (p.1 ++ q.1.drop m, srt (p.2 ++ q.1.drop m) (p.1.take (p.1.length - m) ++ q.2))
def ovT (p q : Tx × Tx) (m : Nat) : Bool := decide (p.1.drop (p.1.length - m) = q.1.take m)
def atOv (p q : Tx × Tx) : List Tri := ((List.range' 1 (min p.1.length q.1.length - 1)).filter (ovT p q)).map (tOf p q)
def rawOv (ps : Ps) : List Tri := ps.flatMap fun p => ps.flatMap fun q => atOv p q
theorem srt_or (a b : Tx) : srt a b = (a, b) ∨ srt a b = (b, a) := by
  unfold srt; split
  · exact .inr rfl
  · exact .inl rfl
theorem mem_raw {ps : Ps} {t : Tri} : t ∈ rawOv ps ↔ ∃ p ∈ ps, ∃ q ∈ ps, ∃ m, 1 ≤ m ∧ m < p.1.length ∧ m < q.1.length ∧ ovT p q m = true ∧ tOf p q m = t := by
  unfold rawOv atOv
  simp only [List.mem_flatMap, List.mem_map, List.mem_filter, List.mem_range'_1]
  constructor
  · rintro ⟨p, hp, q, hq, m, ⟨⟨h1, h2⟩, h3⟩, e⟩
    exact ⟨p, hp, q, hq, m, h1, by omega, by omega, h3, e⟩
  · rintro ⟨p, hp, q, hq, m, h1, h2, h3, h4, e⟩
    exact ⟨p, hp, q, hq, m, ⟨⟨h1, by omega⟩, h4⟩, e⟩
theorem raw_ovl {ps : Ps} {t : Tri} (h : t ∈ rawOv ps) : ∃ a b, Ovl ps a b t.1 ∧ (t.2 = (a, b) ∨ t.2 = (b, a)) := by
  obtain ⟨p, hp, q, hq, m, h1, h2, h3, h4, rfl⟩ := mem_raw.mp h
  have h4 := of_decide_eq_true h4
  refine ⟨p.2 ++ q.1.drop m, p.1.take (p.1.length - m) ++ q.2, ⟨p, hp, q, hq, p.1.take (p.1.length - m), q.1.take m, q.1.drop m, ?_, ?_, ?_, ?_, ?_, ?_, rfl, rfl⟩, srt_or _ _⟩
  · exact fun e => by
      have := congrArg List.length e
      rw [List.length_take, List.length_nil] at this; omega
  · exact fun e => by
      have := congrArg List.length e
      rw [List.length_take, List.length_nil] at this; omega
  · exact fun e => by
      have := congrArg List.length e
      rw [List.length_drop, List.length_nil] at this; omega
  · rw [← h4, List.take_append_drop]
  · rw [List.take_append_drop]
  · show p.1 ++ q.1.drop m = _
    rw [← h4, List.take_append_drop]
theorem ovl_raw {ps : Ps} {a b row : Tx} (h : Ovl ps a b row) : ∃ t ∈ rawOv ps, t.1 = row ∧ (t.2 = (a, b) ∨ t.2 = (b, a)) := by
  obtain ⟨p, hp, q, hq, u, v, w, h1, h2, h3, e1, e2, rfl, rfl, rfl⟩ := h
  have l1 := List.length_pos_iff.mpr h1
  have l2 := List.length_pos_iff.mpr h2
  have l3 := List.length_pos_iff.mpr h3
  have k1 : p.1.length = u.length + v.length := by rw [e1, List.length_append]
  have k2 : q.1.length = v.length + w.length := by rw [e2, List.length_append]
  have ew : q.1.drop v.length = w := by rw [e2, List.drop_left]
  have eu : p.1.take (p.1.length - v.length) = u := by rw [k1, Nat.add_sub_cancel, e1, List.take_left]
  refine ⟨tOf p q v.length, mem_raw.mpr ⟨p, hp, q, hq, v.length, l2, by omega, by omega, decide_eq_true ?_, rfl⟩, ?_, ?_⟩
  · rw [k1, Nat.add_sub_cancel, e1, List.drop_left, e2, List.take_left]
  · show p.1 ++ q.1.drop v.length = _
    rw [ew, e1]
  · show srt (p.2 ++ q.1.drop v.length) (p.1.take (p.1.length - v.length) ++ q.2) = _ ∨ srt (p.2 ++ q.1.drop v.length) (p.1.take (p.1.length - v.length) ++ q.2) = _
    rw [ew, eu]
    exact srt_or _ _
theorem raw_len {ps : Ps} {k n : Nat} (hk : ∀ p ∈ ps, p.1.length ≤ k) (hn : ps.length ≤ n) : (rawOv ps).length ≤ n * (n * k) := by
  have fl : ∀ {α β : Type} (f : α → List β) (c : Nat) (l : List α), (∀ x ∈ l, (f x).length ≤ c) → (l.flatMap f).length ≤ l.length * c := fun f c l => by
    induction l with
    | nil => intro _; simp
    | cons x l ih =>
      intro h
      have h1 := h x List.mem_cons_self
      have h2 := ih fun y hy => h y (List.mem_cons_of_mem _ hy)
      rw [List.flatMap_cons, List.length_append, List.length_cons, Nat.add_mul]; omega
  refine Nat.le_trans (fl _ (n * k) ps fun p hp => Nat.le_trans (fl _ k ps fun q hq => ?_) (Nat.mul_le_mul_right _ hn)) (Nat.mul_le_mul_right _ hn)
  unfold atOv
  rw [List.length_map]
  refine Nat.le_trans (List.length_filter_le _ _) ?_
  rw [List.length_range']
  have := hk p hp
  omega
end K60
set_option maxHeartbeats 4000000
namespace LX
open PySem PySem.W PySem.Spec PyProof.Rows L2 C8 SX
section
variable {X : Cx} {j : Nat}
theorem each_of {K : PySem.W.Frag} {H : Hp} {β : Type} {enc : β → PyData} : ∀ {xs : List V} {bs : List β} {its : List Value}, Paired (fun x b => Dp K H x (enc b)) xs bs → Vals xs its → EachIs (fun v b => ∃ x, RelV x v ∧ Dp K H x (enc b)) its bs
  | _, _, _, .nil, .nil => .nil
  | _, _, _, .cons h t, .cons r rs => .cons ⟨_, r, h⟩ (each_of t rs)
theorem of_each {K : PySem.W.Frag} {H : Hp} {β : Type} {enc : β → PyData} : ∀ {bs : List β} {its : List Value}, EachIs (fun v b => ∃ x, RelV x v ∧ Dp K H x (enc b)) its bs → ∃ xs, Vals xs its ∧ Paired (fun x b => Dp K H x (enc b)) xs bs
  | _, _, .nil => ⟨[], .nil, .nil⟩
  | _, _, .cons ⟨x, r, h⟩ t => by
    obtain ⟨xs, a, b⟩ := of_each t
    exact ⟨x :: xs, .cons r a, .cons h b⟩
theorem paired_len {α β : Type} {F : α → β → Prop} : ∀ {as : List α} {bs : List β}, Paired F as bs → as.length = bs.length
  | _, _, .nil => rfl
  | _, _, .cons _ t => by rw [List.length_cons, List.length_cons, paired_len t]
theorem Paired.app {α β : Type} {F : α → β → Prop} : ∀ {as : List α} {bs : List β} {cs : List α} {ds : List β}, Paired F as bs → Paired F cs ds → Paired F (as ++ cs) (bs ++ ds)
  | _, _, _, _, .nil, h => h
  | _, _, _, _, .cons h t, g => .cons h (Paired.app t g)
theorem pr_imp2 {α β : Type} {F G : α → β → Prop} (k : ∀ a b, F a b → G a b) : ∀ {as : List α} {bs : List β}, Paired F as bs → Paired G as bs
  | _, _, .nil => .nil
  | _, _, .cons h1 h2 => .cons (k _ _ h1) (pr_imp2 k h2)
def rSortD (K : PySem.W.Frag) {β : Type} (enc : β → PyData) : List V → Hp → VK → Prop := fun vs H Q => ∃ (a : Addr) (xs : List V) (bs : List β), vs = [V.ref a] ∧ SqL K H a xs ∧ Paired (fun x b => Dp K H x (enc b)) xs bs ∧ AllAlike (bs.map enc) ∧ Sortable (bs.map enc) ∧ (∀ b ∈ bs, (enc b).depth ≤ 8) ∧
  ∀ (p : Addr) (ys : List V), H p = none → Paired (fun x b => Dp K H x (enc b)) ys (bs.mergeSort (dataLe false enc)) → Q (.ref p) (upd H p (.lst ys))
theorem cr_sortedD {β : Type} (enc : β → PyData) (hu : X.A.units + 64 < cLine) : CallR X (.builtin "sorted") (rSortD X.K enc) := by
  intro pins s σ H vs us Q I r h
  obtain ⟨a, xs, bs, rfl, hs, hd, hal, hk, hdep, q⟩ := h
  obtain ⟨its, rv, hl, hz⟩ := I.list hs
  rw [Vals.ref1 r]
  have e := each_of hd rv
  have er : EachIs (fun v b => ∃ as, Reads s.heap v (enc b) as) its bs := e.mono fun v b ⟨x, rx, hx⟩ => Dp.reads I _ _ _ hx rx
  have hL : bs.length ≤ sizeLine := by rw [← paired_len hd]; exact hz
  refine sorted_data hl.isList e er hal hk hL (fun b hb => by have := hdep b hb; omega) fun out ho eo => ?_
  obtain ⟨ys, rvy, hdy⟩ := of_each eo
  obtain ⟨ep, he'⟩ := PyProof.Rows.sortedAll_at s.heap its out.toArray
  refine ⟨.ref _, upd H (s.heap.objs.size + 1) (.lst ys), I.laid (t' := s.toks) (fun _ _ => PyProof.Rows.sortedAll_old) (Nat.le_succ _) ⟨?_, out, ep, rvy, he'⟩, rfl, q _ _ (I.hok.fresh (Nat.le_succ _)) hdy⟩
  rw [rvy.length, ho]
  exact hL
end
theorem invTrack {X : Cx} {pins : List (Addr × Obj)} {σ : L2.St} {H : Hp} {s : Shared} {g : Heap} {t' : Nat} {ch : List Addr} {T : Addr} {ob : HO} (I : Inv X pins σ H s) (same : ∀ c o, c ∉ ch → s.heap.get? c = some o → g.get? c = some o) (own : ∀ c ∈ ch, FpOk X pins H c) (hT : T ∈ ch)
    (good : ObjOk X.prog X.w (upd H T ob) g T ob) : Inv X pins σ (upd H T ob) { s with heap := g, toks := t' } := by
  have free0 : H T = none := (own T hT).1
  have away : ∀ c o, H c = some o → c ∉ ch := fun c o e m => by have z := (own c m).1; rw [z] at e; cases e
  have ne : ∀ c o, H c = some o → c ≠ T := fun c o e z => by rw [z, free0] at e; cases e
  have old : ∀ c o, H c = some o → upd H T ob c = some o := fun c o e => (upd_ne (ne c o e)).trans e
  refine I.step (g' := s.gens) (d' := s.drawn) (ch := ch) ?mine ?keep ?slot ?free ?there ?tups ?frzs ?tbls ?ns ?hok I.bare
  case mine =>
    intro c m
    obtain ⟨_, p2, _, p4, p5, p6⟩ := own c m
    exact ⟨p4, p2, p5, p6⟩
  case keep => exact fun c o _ _ n e _ => same c o n e
  case slot => exact fun c o _ _ n e _ => ⟨o.slots, same c o n e⟩
  case free => exact fun c o n e f => (upd_ne (fun z => n (by rw [z]; exact hT))).trans f
  case there => exact fun c o n e => ⟨o, same c o n e⟩
  case tups => exact fun c xs e => old c _ e
  case frzs => exact fun c o u e => old c _ e
  case tbls => exact fun c ps e => ⟨#[], by rw [old c _ e, Array.append_empty]⟩
  case ns =>
    rintro m ⟨o, es, ep, at0, r⟩
    exact ⟨o, es, ep, same _ o (fun z => (own _ z).2.1 rfl) at0, r⟩
  case hok =>
    intro c u e
    by_cases z : c = T
    · subst z
      rw [upd_same] at e
      cases e
      exact good
    · rw [upd_ne z] at e
      refine (I.hok c u e).stay (fun d v hd q => same d v ?_ q) (fun d q => old d _ q) fun d xs q => old d _ q
      rcases hd with y | y
      · rw [y]; exact away c u e
      · exact away d _ y
theorem OwnA.fp {X : Cx} {pins : List (Addr × Obj)} {H : Hp} {a : Addr} (O : OwnA X pins a) (hn : H a = none) : FpOk X pins H a := ⟨hn, O.loc, O.fs, O.hi, O.cell, O.pin⟩
def kD (x : List Nat) : PyData := .tuple [.int (x.length : Nat), .str (S x)]
theorem kD_alike (a b : List Nat) : alike (kD a) (kD b) = true := by unfold kD; simp [alike, alikeAll]
theorem kD_lt (a b : List Nat) : dataLt (kD a) (kD b) = decide (OrdL a b) := by
  unfold kD
  rw [dataLt_pair (by simp [alike]) (by simp [alike]), dataLt_int, dataLt_str]
  have ea : (S a).cps.toList = a := by simp [S]
  have eb : (S b).cps.toList = b := by simp [S]
  have e1 : PyData.eqv (.int ((a.length : Nat) : Int)) (.int ((b.length : Nat) : Int)) = decide (a.length = b.length) := by
    rw [PyData.eqv]
    by_cases h : a.length = b.length
    · rw [h, decide_eq_true rfl]; simp
    · rw [decide_eq_false h, beq_eq_false_iff_ne]
      exact fun e => h (by omega)
  have e2 : PyData.eqv (.str (S a)) (.str (S b)) = decide (a = b) := by
    rw [PyData.eqv]
    by_cases h : a = b
    · rw [h, decide_eq_true rfl]; simp
    · rw [decide_eq_false h, beq_eq_false_iff_ne]
      exact fun e => h (by rw [← ea, ← eb, e])
  rw [e1, e2, ea, eb]
  unfold OrdL
  by_cases h : a.length = b.length
  · simp only [decide_eq_true_eq, if_pos h]
    by_cases h2 : a = b
    · subst h2
      rw [if_pos rfl]
      exact (decide_eq_false fun q => q.elim (Nat.lt_irrefl _) fun q => List.lt_irrefl a q.2).symm
    · rw [if_neg h2]
      exact decide_eq_decide.mpr ⟨fun q => .inr ⟨h, q⟩, fun q => q.elim (fun q => absurd q (by omega)) (·.2)⟩
  · simp only [decide_eq_true_eq, if_neg h]
    exact decide_eq_decide.mpr ⟨fun q => .inl (by omega), fun q => q.elim (fun q => by omega) fun q => absurd q.1 h⟩
def ordSort (xs : List (List Nat)) : List (List Nat) := xs.mergeSort (dataLe false kD)
section
variable {X : Cx} {pins : List (Addr × Obj)} {σ : L2.St} {H : Hp} {s : Shared} {kf : Nat} {q : Addr} {fd : FuncData} {ps : List Str} {It Sc : Addr}
theorem key_call2 {o1 o2 : Obj} {x : List Nat} {tk : Tok} {E : Value → Shared → Prop} {Q : Value → Shared → Prop} (F : FnOk X.prog X.w X.K X.mg X.base C8.CX0 kf q fd ps spOrd) (hr : Room (kf + 2) X.A) (hb : Binds X.K fd ps []) (oI : OwnA X pins It) (oS : OwnA X pins Sc)
    (I : Inv X pins σ H s) (nI : H It = none) (nS : H Sc = none) (h1 : s.heap.get? It = some o1) (h2 : s.heap.get? Sc = some o2) (d1 : ∀ v, o1.data ≠ .cell v) (d2 : ∀ v, o2.data ≠ .cell v) (hx : x.length ≤ 1000)
    (k : ∀ (t : Addr) (H' : Hp) (s' : Shared), Inv X pins σ H' s' → Same H H' → H' t = some (.tup [.int (x.length : Nat), .str (S x)]) → s'.heap.get? It = some o1 → s'.heap.get? Sc = some o2 → H' It = none → H' Sc = none → Q (.ref t) s') :
    wpAny (model X.prog X.w) X.A.in1.in1 (call (.ref q) [.str (S x) tk]) Q E s := by
  have I2 : Inv X ((It, o1) :: (Sc, o2) :: pins) σ H s := I.pins_of fun p hp => by
    rcases List.mem_cons.mp hp with rfl | hp
    · exact ⟨h1, nI, oI.loc, oI.fs, d1⟩
    rcases List.mem_cons.mp hp with rfl | hp
    · exact ⟨h2, nS, oS.loc, oS.fs, d2⟩
    · exact I.pin p (List.mem_append_right _ hp)
  have want : spOrd [.str (S x)] H (fun y H' => ∃ t, y = .ref t ∧ Same H H' ∧ H' t = some (.tup [.int (x.length : Nat), .str (S x)])) C8.E0 := ⟨x, rfl, hx, fun t H' sm ht => ⟨t, rfl, sm, ht⟩⟩
  have bs := hb s [Value.str (S x) tk] I2.kIn (by rw [List.append_nil]; exact F.len _ _ _ _ want)
  rw [List.append_nil] at bs
  refine wpAny_call (codeAny_mono (F.run X.A.in1.in1 X.stack s H ⟨[.str (S x) tk], []⟩ _ [.str (S x)] _ C8.E0 hr.in1.in1 I2.env0.in1.in1 bs (.cons ⟨tk, rfl⟩ .nil) want) fun r s' got => ?_)
  match r, got with
  | .ok (.ret u), got =>
    obtain ⟨y, H', I3, rv, t, rfl, sm, ht⟩ := I2.after got
    cases rv
    obtain ⟨a1, a2, _⟩ := I3.pin (It, o1) (List.mem_append_right _ List.mem_cons_self)
    obtain ⟨b1, b2, _⟩ := I3.pin (Sc, o2) (List.mem_append_right _ (List.mem_cons_of_mem _ List.mem_cons_self))
    exact k t H' s' (I3.pins_of fun p hp => I3.pin p (List.mem_append_right _ (List.mem_cons_of_mem _ (List.mem_cons_of_mem _ hp)))) sm ht a1 b1 a2 b2
theorem heap_less (h : Heap) (c : Addr) : ∃ g : Heap, g.get? c = none ∧ ∀ b, b ≠ c → g.get? b = h.get? b := by
  refine ⟨{ h with objs := h.objs.modify c fun o => { o with data := .freed } }, ?_, fun b hb => ?_⟩
  · unfold Heap.get?
    show (match (h.objs.modify c fun o => { o with data := .freed })[c]? with | some ⟨_, _, .freed, _⟩ => none | o => o) = none
    rw [Array.getElem?_modify, if_pos rfl]
    cases h.objs[c]? <;> rfl
  · unfold Heap.get?
    show (match (h.objs.modify c fun o => { o with data := .freed })[b]? with | some ⟨_, _, .freed, _⟩ => none | o => o) = _
    rw [Array.getElem?_modify, if_neg (Ne.symm hb)]
    cases h.objs[b]? with
    | none => rfl
    | some o =>
      obtain ⟨c1, c2, d, c4⟩ := o
      cases d <;> rfl
theorem vals_texts : ∀ {out : List Value} {xs : List (List Nat)}, EachIs (fun v x => ∃ tk, v = Value.str (S x) tk) out xs → Vals (txs xs) out
  | _, _, .nil => .nil
  | _, _, .cons h t => .cons h (vals_texts t)
theorem texts_vals : ∀ {out : List Value} {xs : List (List Nat)}, Vals (txs xs) out → EachIs (fun v x => ∃ tk, v = Value.str (S x) tk) out xs
  | [], [], _ => .nil
  | _ :: _, _ :: _, .cons h t => .cons h (texts_vals t)
  | [], _ :: _, h => nomatch h
  | _ :: _, [], h => nomatch h
theorem each_keys_reads {H : Hp} (I : Inv X pins σ H s) : ∀ {ts : List Addr} {xs : List (List Nat)}, Paired (fun t x => H t = some (.tup [.int (List.length x : Nat), .str (S x)])) ts xs → EachIs (fun v k => ∃ as, Reads s.heap v k as) (ts.map Value.ref) (xs.map kD)
  | _, _, .nil => .nil
  | _, _, .cons h t => .cons (Dp.reads I _ _ _ (.tup (SqT.of h) (.cons (.int _) (.cons (.str _) .nil))) rfl) (each_keys_reads I t)
def rSortKey (K : PySem.W.Frag) (q : Addr) : List V → List V → Hp → VK → Prop := fun vs zs H Q => ∃ (l : Addr) (xs : List (List Nat)), vs = [V.ref l] ∧ zs = [V.ref q] ∧ SqL K H l (txs xs) ∧ (∀ x ∈ xs, x.length ≤ 1000) ∧
  ∀ (p : Addr) (H' : Hp), Same H H' → H p = none → H' p = some (.lst (txs (ordSort xs))) → Q (.ref p) H'
theorem cr_sortedKey2 (Fk : FnOk X.prog X.w X.K X.mg X.base C8.CX0 kf q fd ps spOrd) (hr : Room (kf + 2) X.A) (hb : Binds X.K fd ps []) : CallRK X (.builtin "sorted") [Str.ofString "key"] (rSortKey X.K q) := by
  intro pins s σ H vs zs us ws Q I rv0 rz h
  obtain ⟨l, xs, rfl, rfl, hs, hxs, kQ⟩ := h
  obtain ⟨u, rfl, ru⟩ := vals1 rv0
  obtain ⟨u2, rfl, ru2⟩ := vals1 rz
  obtain rfl : u = Value.ref l := ru
  obtain rfl : u2 = Value.ref q := ru2
  obtain ⟨its, rv, pl, hz0⟩ := I.list hs
  have hn : its.length = xs.length := by rw [← rv.length, txs_len]
  have few : its.length ≤ sizeLine := by rw [← rv.length]; exact hz0
  have hu : X.A.units + 64 < cLine := by have := hr.un; omega
  show wpAny _ _ (call (.builtin "sorted") [Value.ref l] [(Str.ofString "key", .ref q)]) _ _ s
  refine sorted_of_sort pl.isList few (ksk_s1 _ _) (fun _ => ksk_l1 _ _) fun E' => ?_
  rw [ksk_t1]
  have oa : OwnA X pins (s.heap.objs.size + 1) := OwnA.new I (Nat.le_succ _)
  have I1 : Inv X pins σ H { s with heap := copyHeap s.heap its, toks := s.toks } := I.kept fun b o e => copyHeap_old e
  have na0 : H (s.heap.objs.size + 1) = none := I.hok.fresh (Nat.le_succ _)
  have at0 : (copyHeap s.heap its).get? (s.heap.objs.size + 1) = some (seqObj "list" its.toArray 0) := copyHeap_at s.heap its
  have kQ' := fun H' h1 h2 => kQ (s.heap.objs.size + 1) H' h1 na0 h2
  clear kQ
  generalize s.heap.objs.size + 1 = a at oa na0 at0 kQ' ⊢
  generalize copyHeap s.heap its = h0 at I1 at0 ⊢
  have ha : a < h0.objs.size := Heap.lt_size at0
  obtain ⟨e1, at1⟩ : ∃ e1, (h0.update a (Obj.mapSeq fun _ => (#[] : Array Value))).get? a = some (seqObj "list" #[] e1) := ⟨_, get?_update_seq at0 fun _ => #[]⟩
  have hup : ∀ b o, b ≠ a → h0.get? b = some o → (h0.update a (Obj.mapSeq fun _ => (#[] : Array Value))).get? b = some o := fun b o hb e => (Heap.get?_update_ne _ _ _ _ hb).trans e
  unfold ksk_tree
  refine wpAny_bind (listItems_at at0 rfl ?_)
  refine wpAny_bind (listUpdate_at at0 rfl ?_ (by rw [List.size_toArray]; exact few) (Nat.zero_le _))
  refine wpAny_bind (seqEpoch_at at1 rfl ?_)
  refine wpAny_bind (wpAny_newTuple ?_ (by show its.length ≤ _; exact few))
  refine wpAny_bind (wpAny_newList ?_ (Nat.zero_le _))
  refine wpAny_holding ?_
  have Im : Inv X pins σ H { s with heap := (h0.update a (Obj.mapSeq fun _ => (#[] : Array Value))).push (seqObj "tuple" its.toArray 0), toks := s.toks } := oa.turn I1 na0 fun b o hb e => Heap.get?_push_of_some _ (hup b o hb e)
  have oS : OwnA X pins ((h0.update a (Obj.mapSeq fun _ => (#[] : Array Value))).push (seqObj "tuple" its.toArray 0)).objs.size := OwnA.new Im (Nat.le_refl _)
  have nS0 : H ((h0.update a (Obj.mapSeq fun _ => (#[] : Array Value))).push (seqObj "tuple" its.toArray 0)).objs.size = none := Im.hok.fresh (Nat.le_refl _)
  have hka : ((h0.update a (Obj.mapSeq fun _ => (#[] : Array Value))).push (seqObj "tuple" its.toArray 0)).objs.size ≠ a := by
    rw [size_push', Heap.size_update]; omega
  have I2 : Inv X pins σ H { s with heap := ((h0.update a (Obj.mapSeq fun _ => (#[] : Array Value))).push (seqObj "tuple" its.toArray 0)).push (seqObj "list" #[] 0), toks := s.toks } := Im.kept fun b o e => Heap.get?_push_of_some _ e
  have nk : (((h0.update a (Obj.mapSeq fun _ => (#[] : Array Value))).push (seqObj "tuple" its.toArray 0)).push (seqObj "list" #[] 0)).get? ((h0.update a (Obj.mapSeq fun _ => (#[] : Array Value))).push (seqObj "tuple" its.toArray 0)).objs.size = some (seqObj "list" #[] 0) := Heap.get?_push_size _ rfl
  have na : (((h0.update a (Obj.mapSeq fun _ => (#[] : Array Value))).push (seqObj "tuple" its.toArray 0)).push (seqObj "list" #[] 0)).get? a = some (seqObj "list" #[] e1) := Heap.get?_push_of_some _ (Heap.get?_push_of_some _ at1)
  clear Im
  show wpAny _ _ (ksk_rest a (.ref q) false its.toArray _ (.ref _)) _ _ { s with heap := ((h0.update a (Obj.mapSeq fun _ => (#[] : Array Value))).push (seqObj "tuple" its.toArray 0)).push (seqObj "list" #[] 0), toks := s.toks }
  generalize ((h0.update a (Obj.mapSeq fun _ => (#[] : Array Value))).push (seqObj "tuple" its.toArray 0)).push (seqObj "list" #[] 0) = h2 at I2 nk na ⊢
  generalize ((h0.update a (Obj.mapSeq fun _ => (#[] : Array Value))).push (seqObj "tuple" its.toArray 0)).objs.size = kS at oS nS0 hka nk ⊢
  have hal : AllAlike (xs.map kD) := AllAlike.of kD_alike
  have hsk : Sortable (xs.map kD) := Sortable.tuples fun b => ⟨_, _, rfl⟩
  unfold ksk_rest
  refine wpAny_bind (wpAny_rule ?_)
  rw [List.forIn_toArray]
  refine wpAny_bind (ksk_fold (fun i s' => ∃ (H' : Hp) (kA : Array Value) (e : Nat) (ts : List Addr), Inv X pins σ H' s' ∧ Same H H' ∧ H' a = none ∧ H' kS = none ∧ s'.heap.get? kS = some (seqObj "list" kA e) ∧ s'.heap.get? a = some (seqObj "list" #[] e1) ∧ kA.toList = ts.map Value.ref ∧
      Paired (fun t x => H' t = some (.tup [.int (List.length x : Nat), .str (S x)])) ts (xs.take i)) its 0 _
    ⟨H, #[], 0, [], I2, Same.refl H, na0, nS0, nk, na, rfl, by rw [List.take_zero]; exact .nil⟩ ?step ?done)
  case step =>
    rintro j x s' hx ⟨H', kA, e, ts, I3, sm, na3, nS3, nk3, ha3, hts, hp⟩
    simp only [Nat.zero_add] at hp ⊢
    have hj : j < its.length := (List.getElem?_eq_some_iff.mp hx).1
    have hxj : xs[j]? = some (xs.getD j []) := by rw [List.getD_eq_getElem?_getD, List.getElem?_eq_getElem (by omega)]; rfl
    obtain ⟨tk, rfl⟩ : ∃ tk, x = .str (S (xs.getD j [])) tk := by
      have e1 : (txs xs)[j]? = some (.str (S (xs.getD j []))) := by unfold txs; rw [List.getElem?_map, hxj]; rfl
      obtain ⟨u, eu, ru⟩ := rv.get e1
      rw [hx] at eu
      obtain ⟨tv, rfl⟩ := ru
      exact ⟨tv, Option.some.inj eu⟩
    have hkl : kA.size ≤ its.length := by
      have h1 := congrArg List.length hts
      have h2 := paired_len hp
      rw [Array.length_toList, List.length_map] at h1
      rw [List.length_take] at h2
      omega
    refine wpAny_bind (wpAny_attempt (key_call2 (o1 := seqObj "list" #[] e1) (o2 := seqObj "list" kA e) Fk hr hb oa oS I3 na3 nS3 ha3 nk3 (fun v e => nomatch e) (fun v e => nomatch e) (hxs _ (List.mem_of_getElem? hxj)) fun t H4 s4 I4 sm4 ht4 ha4 nk4 na4 nS4 => ?_))
    have s1 := Heap.SameBut.update s4.heap kS (Obj.mapSeq (·.push (Value.ref t)))
    obtain ⟨c2, hc2⟩ : ∃ c2, (s4.heap.update kS (Obj.mapSeq (·.push (Value.ref t)))).get? kS = some (seqObj "list" (kA.push (.ref t)) c2) := ⟨_, get?_update_seq nk4 (·.push (Value.ref t))⟩
    refine wpAny_bind (listUpdate_at nk4 rfl ?_ (Nat.le_trans hkl few) (Nat.le_trans (Nat.le_of_eq (Array.size_push ..)) (Nat.succ_le_succ (Nat.le_trans hkl few))))
    refine wpAny_pure ⟨rfl, H4, kA.push (.ref t), c2, ts ++ [t], oS.turn (tk := s4.toks) I4 nS4 fun b o n e => (s1.2 b n).trans e, sm.trans sm4, na4, nS4, hc2, (s1.2 a hka.symm).trans ha4, by rw [Array.toList_push, hts, List.map_append]; rfl, ?_⟩
    rw [List.take_succ, hxj]
    exact Paired.app (pr_imp2 (fun _ _ e => sm4 _ _ e) hp) (.cons ht4 .nil)
  case done =>
    rintro s' ⟨H', kA, e, ts, I3, sm, na3, nS3, nk3, ha3, hts, hp⟩
    rw [Nat.zero_add, hn, List.take_length] at hp
    have hk' : EachIs (fun v k => ∃ as, Reads s'.heap v k as) kA.toList (xs.map kD) := by rw [hts]; exact each_keys_reads I3 hp
    have hsz : kA.size = its.length := by
      have h1 := hk'.length
      rw [Array.length_toList, List.length_map] at h1
      omega
    obtain ⟨g, hg0, hg⟩ := heap_less s'.heap kS
    have kp : KeepsBut a g s'.heap := fun b o hb e => by
      have hb2 : b ≠ kS := fun z => by rw [z, hg0] at e; cases e
      rw [← hg b hb2]; exact e
    try dsimp only
    refine wpAny_bind (listItems_at nk3 rfl ?_)
    refine keyH_end (κ := dataKind s'.heap (xs.map kD)) (h₁ := g) kp hg0 nk3 ha3 hka (SortsAt.data hk' hal hsk fun d hd => ?_) hsz few fun h3 tk3 c k3 n3 => ?_
    · obtain ⟨x, _, rfl⟩ := List.mem_map.mp hd
      have e : (kD x).depth = 1 := by unfold kD; simp [PyData.depth, PyData.depthAll]
      have : X.A.in1.in1.units = X.A.units + 2 := rfl
      omega
    · have eo := keyedOut_each (rev := false) (out := sortVals (dataKind s'.heap (xs.map kD)) false kA.toList its) kD ⟨s'.heap, kA.toList, hal, rfl, hk'⟩ (texts_vals rv)
      have hv := vals_texts eo
      refine ⟨rfl, .ref a, upd H' a (.lst (txs (ordSort xs))), invTrack I3 (ch := [a, kS]) (t' := tk3) (fun b o hb e => ?_) (fun b hb => ?_) (by simp) ⟨?_, _, c, hv, n3⟩, rfl, kQ' _ (sm.trans (sm_new na3)) upd_same⟩
      · have h1 : b ≠ a := fun z => hb (by simp [z])
        have h2 : b ≠ kS := fun z => hb (by simp [z])
        exact k3 b o h1 (by rw [hg b h2]; exact e)
      · rcases List.mem_cons.mp hb with rfl | hb
        · exact oa.fp na3
        · rw [List.mem_singleton.mp hb]; exact oS.fp nS3
      · rw [txs_len]
        unfold ordSort
        rw [List.length_mergeSort, ← hn]
        exact few
end
end LX
set_option maxHeartbeats 2000000
namespace Toy
open PySem PySem.W L2 C8 SX LX
def tri (t : K60.Tri) : PyData := .tuple [.str (S t.1), .str (S t.2.1), .str (S t.2.2)]
theorem S_cps (x : List Nat) : (S x).cps.toList = x := by simp [S]
theorem tri_toks (t : K60.Tri) : keyToks (tri t) = [.inl 1, .inr t.1, .inl 1, .inr t.2.1, .inl 1, .inr t.2.2, .inl 0] := by
  unfold tri
  simp only [keyToks, keyToksAll, S_cps]
  rfl
theorem tri_alike (a b : K60.Tri) : alike (tri a) (tri b) = true := by unfold tri; simp [alike, alikeAll]
theorem tri_inj {a b : K60.Tri} (h : keyToks (tri a) = keyToks (tri b)) : a = b := by
  rw [tri_toks, tri_toks] at h
  simp only [List.cons.injEq, Sum.inr.injEq, and_true, true_and] at h
  exact Prod.ext h.1 (Prod.ext h.2.1 h.2.2)
abbrev leT : K60.Tri → K60.Tri → Bool := dataLe false tri
theorem leT_eq (a b : K60.Tri) : leT a b = !dataLt (tri b) (tri a) := by
  show dataLe false tri a b = _
  rw [dataLe_eq]; rfl
theorem leT_trans (a b c : K60.Tri) (h1 : leT a b = true) (h2 : leT b c = true) : leT a c = true := by
  rw [leT_eq, Bool.not_eq_true'] at *
  cases e : dataLt (tri c) (tri a) with
  | false => rfl
  | true =>
    rcases PyProof.Rows.lex_negTrans (O := PyProof.Rows.itemOrd) _ (keyToks (tri b)) _ e with q | q
    · exact absurd (h2.symm.trans q) (by decide)
    · exact absurd (h1.symm.trans q) (by decide)
theorem leT_total (a b : K60.Tri) : (leT a b || leT b a) = true := by
  rw [leT_eq, leT_eq]
  cases e : dataLt (tri b) (tri a) with
  | false => rfl
  | true =>
    cases e2 : dataLt (tri a) (tri b) with
    | false => rfl
    | true =>
      have := PyProof.Rows.lex_trans (O := PyProof.Rows.itemOrd) _ _ _ e e2
      rw [PyProof.Rows.lex_irrefl] at this; cases this
theorem leT_anti (a b : K60.Tri) (h1 : leT a b = true) (h2 : leT b a = true) : a = b := by
  rw [leT_eq, Bool.not_eq_true'] at *
  exact tri_inj (PyProof.Rows.lex_total (O := PyProof.Rows.itemOrd) _ _ h2 h1)
theorem sort_uniq {α : Type} {le : α → α → Bool} (anti : ∀ a b, le a b = true → le b a = true → a = b) : ∀ {l m : List α}, l.Perm m → l.Pairwise (fun a b => le a b = true) → m.Pairwise (fun a b => le a b = true) → l = m
  | [], m, h, _, _ => (List.Perm.eq_nil h.symm).symm
  | x :: l, [], h, _, _ => absurd h.length_eq (by simp)
  | x :: l, y :: m, h, h1, h2 => by
    have e : x = y := by
      rcases List.mem_cons.mp (h.mem_iff.mp (List.mem_cons_self (a := x) (l := l))) with e | hx
      · exact e
      · rcases List.mem_cons.mp (h.mem_iff.mpr (List.mem_cons_self (a := y) (l := m))) with e | hy
        · exact e.symm
        · exact anti x y ((List.pairwise_cons.mp h1).1 y hy) ((List.pairwise_cons.mp h2).1 x hx)
    subst e
    rw [sort_uniq anti h.cons_inv (List.pairwise_cons.mp h1).2 (List.pairwise_cons.mp h2).2]
theorem perm_of_mem {α : Type} [DecidableEq α] {l m : List α} (h1 : l.Nodup) (h2 : m.Nodup) (h : ∀ x, x ∈ l ↔ x ∈ m) : l.Perm m := (List.perm_ext_iff_of_nodup h1 h2).mpr h
theorem sortT_pw (l : List K60.Tri) : (l.mergeSort leT).Pairwise (fun a b => leT a b = true) := List.pairwise_mergeSort leT_trans leT_total l
structure Told (ps : K60.Ps) (ts : List K60.Tri) : Prop where
  nd : ts.Nodup
  mem : ∀ t, t ∈ ts ↔ t ∈ K60.rawOv ps ∧ t.2.1 ≠ t.2.2
  srt : ts.Pairwise (fun a b => leT a b = true)
theorem Told.uniq {ps : K60.Ps} {ts ts' : List K60.Tri} (h : Told ps ts) (h' : Told ps ts') : ts = ts' :=
  sort_uniq leT_anti (perm_of_mem h.nd h'.nd fun x => (h.mem x).trans (h'.mem x).symm) h.srt h'.srt
theorem Told.of {ps : K60.Ps} {l : List K60.Tri} (nd : l.Nodup) (mem : ∀ t, t ∈ l ↔ t ∈ K60.rawOv ps ∧ t.2.1 ≠ t.2.2) : Told ps (l.mergeSort leT) :=
  ⟨(List.mergeSort_perm l leT).nodup_iff.mpr nd, fun t => (List.mergeSort_perm l leT).mem_iff.trans (mem t), sortT_pw l⟩
theorem Told.again {ps : K60.Ps} {ts : List K60.Tri} (h : Told ps ts) : ts.mergeSort leT = ts := List.mergeSort_of_pairwise h.srt
theorem Told.few {ps : K60.Ps} {ts : List K60.Tri} (h : Told ps ts) {n : Nat} (hn : (K60.rawOv ps).length ≤ n) : ts.length ≤ n := Nat.le_trans (nodup_le h.nd fun t ht => ((h.mem t).mp ht).1) hn
theorem ordSort_two (a b : List Nat) : ordSort [a, b] = [(K60.srt a b).1, (K60.srt a b).2] := by
  have e : ∀ x y, dataLe false kD x y = !decide (OrdL y x) := fun x y => by rw [dataLe_eq]; show (!dataLt (kD y) (kD x)) = _; rw [kD_lt]
  unfold ordSort K60.srt
  have hs : List.mergeSort [a, b] (dataLe false kD) = List.merge [a] [b] (dataLe false kD) := by
    simp [List.mergeSort, List.MergeSort.Internal.splitInTwo]
  rw [hs]
  by_cases h : OrdL b a
  · have h' : K60.Ord b a := h
    rw [if_pos h']
    simp [List.merge, e, h]
  · have h' : ¬ K60.Ord b a := h
    rw [if_neg h']
    simp [List.merge, e, h]
def kT (t : K60.Tri) : List Key := [.inr (S t.1), .inr (S t.2.1), .inr (S t.2.2)]
theorem S_inj {a b : List Nat} (h : S a = S b) : a = b := by simpa [S] using h
theorem kT_inj {a b : K60.Tri} (h : kT a = kT b) : a = b := by
  unfold kT at h
  simp only [List.cons.injEq, Sum.inr.injEq, and_true] at h
  exact Prod.ext (S_inj h.1) (Prod.ext (S_inj h.2.1) (S_inj h.2.2))
def tK (ks : List K60.Tri) : List (List Key × V) := ks.map fun t => (kT t, V.bl true)
theorem putT (ks : List K60.Tri) (t : K60.Tri) : putK (tK ks) (kT t) (.bl true) = tK (if t ∈ ks then ks else ks ++ [t]) := by
  unfold putK
  have e : ((tK ks).any fun kv => decide (kv.1 = kT t)) = decide (t ∈ ks) := by
    unfold tK
    rw [List.any_map]
    by_cases h : t ∈ ks
    · rw [decide_eq_true h]
      exact List.any_eq_true.mpr ⟨t, h, decide_eq_true rfl⟩
    · rw [decide_eq_false h, List.any_eq_false]
      intro x hx
      exact fun q => h (by rw [← kT_inj (of_decide_eq_true q)]; exact hx)
  rw [e]
  by_cases h : t ∈ ks
  · rw [if_pos (decide_eq_true h), if_pos h]
    unfold tK
    rw [List.map_map]
    refine List.map_congr_left fun x hx => ?_
    show (if kT x = kT t then (kT x, V.bl true) else (kT x, V.bl true)) = _
    split <;> rfl
  · rw [if_neg (by rw [decide_eq_false h]; decide), if_neg h]
    unfold tK
    rw [List.map_append]; rfl
def KsOk (ks l : List K60.Tri) : Prop := ks.Nodup ∧ ∀ t, t ∈ ks ↔ t ∈ l
theorem KsOk.put {ks l : List K60.Tri} (h : KsOk ks l) (t : K60.Tri) : KsOk (if t ∈ ks then ks else ks ++ [t]) (l ++ [t]) := by
  by_cases e : t ∈ ks
  · rw [if_pos e]
    exact ⟨h.1, fun x => ⟨fun hx => List.mem_append_left _ ((h.2 x).mp hx), fun hx => by
      rcases List.mem_append.mp hx with hx | hx
      · exact (h.2 x).mpr hx
      · rw [List.mem_singleton.mp hx]; exact e⟩⟩
  · rw [if_neg e]
    refine ⟨List.nodup_append.mpr ⟨h.1, by simp, fun a ha b hb => ?_⟩, fun x => ?_⟩
    · rw [List.mem_singleton.mp hb]
      exact fun z => e (z ▸ ha)
    · rw [List.mem_append, List.mem_append, h.2 x]
theorem KsOk.len {ks l : List K60.Tri} (h : KsOk ks l) : ks.length ≤ l.length := nodup_le h.1 fun t ht => (h.2 t).mp ht
end Toy
set_option maxHeartbeats 2000000
namespace Toy
open PySem L2 C8 SX LX
theorem Gr.raw {sg : List Nat} {ps : Ps} (hsh : ∀ p ∈ ps, p.1.length ≤ 4) (hfew : ps.length ≤ 4) : (K60.rawOv ps).length ≤ 64 := K60.raw_len hsh hfew
def rawI (ps : Ps) (i : Nat) : List K60.Tri := (ps.take i).flatMap fun p => ps.flatMap fun q => K60.atOv p q
def rawJ (ps : Ps) (p : List Nat × List Nat) (j : Nat) : List K60.Tri := (ps.take j).flatMap fun q => K60.atOv p q
def rawM (p q : List Nat × List Nat) (k : Nat) : List K60.Tri := ((List.range' 1 k).filter (K60.ovT p q)).map (K60.tOf p q)
theorem rawI_succ {ps : Ps} {i : Nat} (h : i < ps.length) : rawI ps (i + 1) = rawI ps i ++ rawJ ps (ps.getD i ([], [])) ps.length := by
  have e : ps[i]? = some (ps.getD i ([], [])) := by rw [List.getD_eq_getElem?_getD, List.getElem?_eq_getElem h]; rfl
  unfold rawI rawJ
  rw [List.take_succ, e, List.flatMap_append, List.take_length]
  simp
theorem rawJ_succ {ps : Ps} {p : List Nat × List Nat} {j : Nat} (h : j < ps.length) : rawJ ps p (j + 1) = rawJ ps p j ++ rawM p (ps.getD j ([], [])) (min p.1.length (ps.getD j ([], [])).1.length - 1) := by
  have e : ps[j]? = some (ps.getD j ([], [])) := by rw [List.getD_eq_getElem?_getD, List.getElem?_eq_getElem h]; rfl
  unfold rawJ
  rw [List.take_succ, e, List.flatMap_append]
  simp [rawM, K60.atOv]
theorem rawM_succ {p q : List Nat × List Nat} {k : Nat} : rawM p q (k + 1) = rawM p q k ++ (if K60.ovT p q (k + 1) then [K60.tOf p q (k + 1)] else []) := by
  unfold rawM
  rw [List.range'_1_concat, List.filter_append, List.map_append, Nat.add_comm 1 k]
  cases h : K60.ovT p q (k + 1) with
  | true => rw [List.filter_cons_of_pos h]; rfl
  | false => rw [List.filter_cons_of_neg (by rw [h]; decide)]; rfl
theorem rawI_all (ps : Ps) : rawI ps ps.length = K60.rawOv ps := by unfold rawI K60.rawOv; rw [List.take_length]
theorem rawI_len {ps : Ps} (hsh : ∀ p ∈ ps, p.1.length ≤ 4) (hfew : ps.length ≤ 4) {p q : List Nat × List Nat} (hp : p.1.length ≤ 4) {i j k : Nat} (hk : k ≤ 3) : (rawI ps i ++ rawJ ps p j ++ rawM p q k).length ≤ 1000 := by
  have h1 : (rawI ps i).length ≤ 4 * 16 := by
    unfold rawI
    refine Nat.le_trans (flat_len (c := 16) fun p hp => ?_) (Nat.mul_le_mul_right _ (by rw [List.length_take]; omega))
    refine Nat.le_trans (flat_len (c := 4) fun q hq => ?_) (by omega)
    unfold K60.atOv
    rw [List.length_map]
    refine Nat.le_trans (List.length_filter_le _ _) ?_
    rw [List.length_range']
    have := hsh p (List.mem_of_mem_take hp)
    omega
  have h2 : (rawJ ps p j).length ≤ 4 * 4 := by
    unfold rawJ
    refine Nat.le_trans (flat_len (c := 4) fun q hq => ?_) (Nat.mul_le_mul_right _ (by rw [List.length_take]; omega))
    unfold K60.atOv
    rw [List.length_map]
    refine Nat.le_trans (List.length_filter_le _ _) ?_
    rw [List.length_range']
    omega
  have h3 : (rawM p q k).length ≤ k := by
    unfold rawM
    rw [List.length_map]
    refine Nat.le_trans (List.length_filter_le _ _) ?_
    rw [List.length_range']
    exact Nat.le_refl _
  rw [List.length_append, List.length_append]; omega
theorem ends_drop (a b : List Nat) (m : Nat) (h1 : m ≤ a.length) (h2 : m ≤ b.length) : Txt.endswith (S a) (S (b.take m)) = decide (a.drop (a.length - m) = b.take m) := by
  unfold Txt.endswith
  rw [PySem.StrLaws.subAt_eq, S_cps, S_cps, S_len, S_len]
  have hl : (b.take m).length = m := by rw [List.length_take]; omega
  have e : (a.drop (a.length - m)).take m = a.drop (a.length - m) := List.take_of_length_le (by rw [List.length_drop]; omega)
  rw [hl, Nat.zero_add, decide_eq_true h1, e, Bool.true_and]
  exact Bool.beq_eq_decide_eq _ _
theorem cutn_neg (r : List Nat) (n : Nat) (h0 : 1 ≤ n) (h : n ≤ r.length) : Txt.slice (S r) none (some (-(n : Int))) = S (r.take (r.length - n)) := by
  have e := PySem.StrLaws.sliceText_neg_hi (S r) none (j := -(n : Int)) (by omega) (by rw [S_len]; omega)
  rw [S_len] at e
  refine Eq.trans e ?_
  rw [show (-(n : Int) + ((r.length : Nat) : Int)) = ((r.length - n : Nat) : Int) by omega]
  exact cutn_to _ _
theorem paired_idx {α β : Type} {F : α → β → Prop} : ∀ {as : List α} {bs : List β}, as.length = bs.length → (∀ (j : Nat) a b, as[j]? = some a → bs[j]? = some b → F a b) → Paired F as bs
  | [], [], _, _ => .nil
  | [], _ :: _, h, _ => by cases h
  | _ :: _, [], h, _ => by cases h
  | a :: as, b :: bs, h, g => .cons (g 0 a b rfl rfl) (paired_idx (by simpa using h) fun j x y h1 h2 => g (j + 1) x y h1 h2)
theorem range_getD {α : Type} (l : List α) (d : α) : (List.range l.length).map (fun j => l.getD j d) = l := by
  refine List.ext_getElem? fun i => ?_
  rw [List.getElem?_map]
  by_cases h : i < l.length
  · rw [List.getElem?_range h]
    show some (l.getD i d) = _
    rw [List.getD_eq_getElem?_getD, List.getElem?_eq_getElem h]; rfl
  · rw [List.getElem?_eq_none (by simpa using Nat.le_of_not_lt h), List.getElem?_eq_none (Nat.le_of_not_lt h)]; rfl
theorem taken_filter {α : Type} (l : List α) (d : α) (f : α → Bool) : (takenN (fun j => f (l.getD j d)) l.length).map (fun j => l.getD j d) = l.filter f := by
  unfold takenN
  conv => rhs; rw [← range_getD l d, List.filter_map]
  rfl
theorem dp_tri {K : PySem.W.Frag} {H : Hp} {q : Addr} {t : K60.Tri} (h : H q = some (.tup ((kT t).map kV))) : Dp K H (.ref q) (tri t) := .tup (SqT.of h) (.cons (.str _) (.cons (.str _) (.cons (.str _) .nil)))
section
variable {P : Program} {w : World} {K : PySem.W.Frag} {mg : Str → Option Value} {base : Heap}
abbrev s_ov : Stmt := top 17
abbrev n_ov : List Str := ["rules", "found", "first", "right", "second", "other_right", "many", "rests", "triple"]
theorem sc_ov : FnScope n_ov ["rules"] (fnScope s_ov) := fnScope_by (by decide +kernel)
def spOv (K : PySem.W.Frag) (C : Addr) : Sp := fun vs H Q _ => ∃ (a : Addr) (sg : List Nat) (ps : Ps), vs = [.ref a] ∧ Rul K C H a sg ps ∧ Gr sg ps ∧ (∀ p ∈ ps, p.1.length ≤ 4) ∧ ps.length ≤ 4 ∧
  ∀ (p : Addr) (xs : List V) (ts : List K60.Tri) (H' : Hp), Same H H' → H' p = some (.tup xs) → Paired (fun x t => Dp K H' x (tri t)) xs ts → Told ps ts → Q (.ref p) H'
theorem fn_ov {C : Addr} (T : BT mg) (CH : CC K C) {f_order : Addr} {fd_order : FuncData} (mg_order : mg "row_order" = some (.ref f_order)) (Fk_order : FnOk P w K mg base C8.CX0 1 f_order fd_order ["row"] spOrd) (hb_order : Binds K fd_order ["row"] [])
    {f : Addr} {fd : FuncData} (F : Def K mg "overlaps" s_ov f fd) : FnOk P w K mg base C8.CX0 4 f fd ["rules"] (spOv K C) := by
  refine fn0 F.fn sc_ov (fun vs H Q E h => ?_) (fun cdv A outer s H vs Q E hr h => ?_)
  · obtain ⟨a, sg, ps, rfl, _⟩ := h; rfl
  · obtain ⟨a, sg, ps, rfl, hc, g, hsh, hfew, k⟩ := h
    obtain ⟨dx, r, ha, hdp⟩ := id hc
    obtain ⟨xs, hq, hxl, hat⟩ := pairs_at hdp
    refine ⟨_, (pss_cons (ps_set (i := 1) sc_ov.nd rfl (.inl rfl) pe_dnewT)
      (pss_cons (ps_for PassesOwn.never rfl (pi_tup (fldK K (pv 0) rfl)) (tupK K 2 (pgs_cons (pg_name (i := 2) sc_ov.nd rfl (.inl rfl)) (pgs_cons (pg_name (i := 3) sc_ov.nd rfl (.inl rfl)) pgs_nil))) 
        (pss_one (ps_for PassesOwn.never rfl (pi_tup (fldK K (pv 0) rfl)) (tupK K 2 (pgs_cons (pg_name (i := 4) sc_ov.nd rfl (.inl rfl)) (pgs_cons (pg_name (i := 5) sc_ov.nd rfl (.inl rfl)) pgs_nil))) 
          (pss_one (ps_for PassesOwn.never rfl (pi_range2 (by rfl) T.m_range (pa_cons pe_int (pa_cons (pe_callB (call_min2 rfl) (by rfl) T.m_min PyProof.Rows.boot_min (pa_cons (pe_callB call_len_str (by rfl) T.m_len PySem.boot_len (pa_cons (pv 2) pa_nil)) (pa_cons (pe_callB call_len_str (by rfl) T.m_len PySem.boot_len (pa_cons (pv 4) pa_nil)) pa_nil))) pa_nil))) (pg_name (i := 6) sc_ov.nd rfl (.inl rfl)) 
            (pss_one (ps_if (pt_val (pe_bm PySem.F.plainAttrs_str PySem.F.slot_str_endswith PySem.F.type_str_endswith mt_endswith (pv 2) (pa_cons (pe_slice sl_txt (pv 4) po_none (po_some (pv 6))) pa_nil))) 
              (pss_cons (ps_set (i := 7) sc_ov.nd rfl (.inl rfl) (pe_callBK (cr_sortedKey2 Fk_order (hr.mono (by decide)) hb_order) (by rfl) T.m_sorted PyProof.Rows.boot_sorted (pa_cons (pe_lst (pa_cons (pe_op op_add_str (pv 3) (pe_slice sl_txt (pv 4) (po_some (pv 6)) po_none)) (pa_cons (pe_op op_add_str (pe_slice sl_txt (pv 2) po_none (po_some (pe_un un_neg (pv 6)))) (pv 5)) pa_nil))) pa_nil) (pk_cons (pe_glob (v := .ref f_order) (by rfl) mg_order rfl) pk_nil)))
              (pss_cons (ps_set (i := 8) sc_ov.nd rfl (.inl rfl) (pe_tup (pa_cons (pe_op op_add_str (pv 2) (pe_slice sl_txt (pv 4) (po_some (pv 6)) po_none)) (StX.pa_star (pv 7) pa_nil))))
              (pss_one (ps_dput (hu_of hr) (pv 1) (pv 8) pe_bl rfl)
              )))
             pss_nil)
            ))
          ))
        ))
      (pss_one (ps_ret (pe_callTy (tupleK K) (by rfl) T.m_tuple PyProof.Rows.boot_tuple (pa_cons (pe_callB (cr_sortedD tri hr.units) (by rfl) T.m_sorted PyProof.Rows.boot_sorted (pa_cons (pe_lock (pe_lc (own := [("triple", 8)]) rfl sc_ov.nd (pi_keys (pv 1)) (blkOk_by (N := n_ov) (sc := fnScope s_ov) (by decide +kernel)) (fun _ _ _ _ _ => (pg_name (i := 8) sc_ov.nd rfl (.inl rfl))) (fun _ _ _ _ _ => pts_one (pt_cmpR op_ne (pe_ix (ixt K) (pv 8) pe_int (fun _ _ => rfl)) (pe_ix (ixt K) (pv 8) pe_int (fun _ _ => rfl)) (nomark _))) (fun _ _ _ _ _ => (pv 8)))) pa_nil)) pa_nil)))
      ))), ?_⟩
    refine fun D hD => ?_
    have w1 := sm_new (o := .dT []) hD
    have e1 : (upd H D (.dT [])) D = some (.dT (tK [])) := upd_same
    generalize upd H D (.dT []) = H1 at w1 e1 ⊢
    refine ⟨_, rfl, a, C, dx, _, _, rfl, w1 _ _ ha, CH.cl, CH.nP, ruF_pairs _ _, r, rfl, ⟨_, sm_seqT w1 hq⟩, ?_⟩
    refine for_it (walk_tup (K := K) (a := r) (xs := xs)) (fun i σ H' => (∃ s2 s3 s4 s5 s6 s7 s8 : Option V, σ = [some (.ref a), some (.ref D), s2, s3, s4, s5, s6, s7, s8]) ∧ Same H H' ∧ ∃ ks, H' D = some (.dT (tK ks)) ∧ KsOk ks (rawI ps i))
      ⟨⟨_, _, _, _, _, _, _, rfl⟩, w1, [], e1, List.nodup_nil, fun t => Iff.rfl⟩ (fun _ _ _ _ h => sm_seqT h.2.1 hq) ?_ ?_
    · clear e1 w1 H1
      rintro i x σ H1 H1' hi ⟨⟨s2, s3, s4, s5, s6, s7, s8, rfl⟩, w1, ks, e1, hk1⟩ ⟨rfl, hx⟩
      rw [hxl] at hi
      obtain ⟨q1, hx1, hq1⟩ := hat i hi
      rw [hx1] at hx
      obtain rfl := Option.some.inj hx
      have hp4 : (ps.getD i ([], [])).1.length ≤ 4 := hsh _ (K60.getD_mem2 hi)
      have hp5 : (ps.getD i ([], [])).2.length ≤ 40 := g.short2 _ (K60.getD_mem2 hi)
      refine ⟨q1, _, rfl, sm_seqT w1 hq1, rfl, _, _, rfl, _, _, rfl, rfl, ?_⟩
      refine ⟨_, rfl, a, C, dx, _, _, rfl, w1 _ _ ha, CH.cl, CH.nP, ruF_pairs _ _, r, rfl, ⟨_, sm_seqT w1 hq⟩, ?_⟩
      generalize hpe : ps.getD i ([], []) = p at hx1 hq1 hp4 hp5 ⊢
      refine for_it (walk_tup (K := K) (a := r) (xs := xs)) (fun j σ H' => (∃ s4 s5 s6 s7 s8 : Option V, σ = [some (.ref a), some (.ref D), some (.str (S p.1)), some (.str (S p.2)), s4, s5, s6, s7, s8]) ∧ Same H H' ∧ ∃ ks, H' D = some (.dT (tK ks)) ∧ KsOk ks (rawI ps i ++ rawJ ps p j))
        ⟨⟨_, _, _, _, _, rfl⟩, w1, ks, e1, by rw [show rawJ ps p 0 = [] from rfl, List.append_nil]; exact hk1⟩ (fun _ _ _ _ h => sm_seqT h.2.1 hq) ?_ ?_
      · clear e1 w1 H1' hk1 ks s2 s3 s4 s5 s6 s7 s8
        rintro j x σ H1 H1' hj ⟨⟨s4, s5, s6, s7, s8, rfl⟩, w1, ks, e1, hk1⟩ ⟨rfl, hx⟩
        rw [hxl] at hj
        obtain ⟨q2, hx2, hq2⟩ := hat j hj
        rw [hx2] at hx
        obtain rfl := Option.some.inj hx
        have hq4 : (ps.getD j ([], [])).1.length ≤ 4 := hsh _ (K60.getD_mem2 hj)
        have hq5 : (ps.getD j ([], [])).2.length ≤ 40 := g.short2 _ (K60.getD_mem2 hj)
        refine ⟨q2, _, rfl, sm_seqT w1 hq2, rfl, _, _, rfl, _, _, rfl, rfl, ?_⟩
        have hJ := rawJ_succ (p := p) hj
        generalize ps.getD j ([], []) = q at hx2 hq2 hq4 hq5 hJ ⊢
        have emin : (if (((S q.1).length : Nat) : Int) < (((S p.1).length : Nat) : Int) then (((S q.1).length : Nat) : Int) else (((S p.1).length : Nat) : Int)) = ((min p.1.length q.1.length : Nat) : Int) := by rw [S_len, S_len]; split <;> omega
        refine ⟨_, rfl, _, rfl, by rw [S_len]; exact sz hp4 (by decide), _, rfl, _, rfl, by rw [S_len]; exact sz hq4 (by decide), ?_⟩
        refine ⟨_, _, rfl, ?_⟩
        rw [emin]
        refine ⟨_, _, rfl, ⟨by omega, by omega, by omega, by omega⟩, ?_⟩
        have en : (((min p.1.length q.1.length : Nat) : Int) - 1).toNat = min p.1.length q.1.length - 1 := by omega
        refine for_it (walk_range (lo := 1) (n := (((min p.1.length q.1.length : Nat) : Int) - 1).toNat)) (fun m σ H' => (∃ s6 s7 s8 : Option V, σ = [some (.ref a), some (.ref D), some (.str (S p.1)), some (.str (S p.2)), some (.str (S q.1)), some (.str (S q.2)), s6, s7, s8]) ∧ Same H H' ∧ ∃ ks, H' D = some (.dT (tK ks)) ∧ KsOk ks (rawI ps i ++ rawJ ps p j ++ rawM p q m))
          ⟨⟨_, _, _, rfl⟩, w1, ks, e1, by rw [show rawM p q 0 = [] from rfl, List.append_nil]; exact hk1⟩ (fun _ _ _ _ _ => trivial) ?_ ?_
        · clear e1 w1 H1' hk1 ks s4 s5 s6 s7 s8
          rintro m x σ H1 H1' hm ⟨⟨s6, s7, s8, rfl⟩, w1, ks, e1, hk1⟩ ⟨rfl, rfl⟩
          rw [en] at hm
          have bq : (S q.1).length ≤ sizeLine := by rw [S_len]; exact sz hq4 (by decide)
          have bp : (S p.1).length ≤ sizeLine := by rw [S_len]; exact sz hp4 (by decide)
          have em : (1 : Int) + (m : Int) = ((m + 1 : Nat) : Int) := by omega
          refine ⟨_, rfl, rfl, _, rfl, _, rfl, _, rfl, _, rfl, bq, ?_⟩
          refine ⟨_, _, rfl, rfl, _, rfl, ?_⟩
          rw [em, cutn_to, ends_drop _ _ _ (by omega) (by omega)]
          cases hh : K60.ovT p q (m + 1) with
          | false =>
            refine iteN hh ?_
            exact ⟨⟨_, _, _, rfl⟩, w1, ks, e1, by rw [rawM_succ, hh]; exact (List.append_nil _).symm ▸ hk1⟩
          | true =>
            refine iteB hh ?_
            have hm1 : m + 1 ≤ p.1.length := by omega
            have hm2 : m + 1 ≤ q.1.length := by omega
            refine ⟨_, rfl, _, rfl, _, rfl, _, rfl, _, rfl, bq, ?_⟩
            rw [em, cutn_from]
            refine ⟨_, _, rfl, rfl, by rw [S_len, S_len, List.length_drop]; exact sz (m := 80) (by omega) (by decide), ?_⟩
            rw [S_cat]
            refine ⟨_, rfl, _, rfl, _, rfl, _, rfl, _, rfl, bp, ?_⟩
            rw [em, cutn_neg _ _ (by omega) hm1]
            refine ⟨_, rfl, _, _, rfl, rfl, by rw [S_len, S_len, List.length_take]; exact sz (m := 80) (by omega) (by decide), ?_⟩
            rw [S_cat]
            refine ⟨by show 2 ≤ sizeLine; decide, fun l hl => ?_⟩
            have hlen := rawI_len hsh hfew (i := i) (j := j) (k := m) (p := p) (q := q) hp4 (by omega)
            have ht : K60.tOf p q (m + 1) = (p.1 ++ q.1.drop (m + 1), K60.srt (p.2 ++ q.1.drop (m + 1)) (p.1.take (p.1.length - (m + 1)) ++ q.2)) := rfl
            refine ⟨l, [p.2 ++ q.1.drop (m + 1), p.1.take (p.1.length - (m + 1)) ++ q.2], rfl, rfl, SqL.of upd_same, fun x hx => ?_, fun R H2 w2 hR eR => ?_⟩
            · rcases List.mem_cons.mp hx with rfl | hx
              · rw [List.length_append, List.length_drop]; omega
              · rw [List.mem_singleton.mp hx, List.length_append, List.length_take]; omega
            rw [ordSort_two] at eR
            generalize K60.srt (p.2 ++ q.1.drop (m + 1)) (p.1.take (p.1.length - (m + 1)) ++ q.2) = ab at eR ht
            have w12 := (sm_new hl).trans w2
            have e2 := w12 _ _ e1
            have wH := w1.trans w12
            clear w2 hR w12 e1 hl
            refine ⟨_, rfl, _, rfl, _, rfl, _, rfl, _, rfl, bq, ?_⟩
            rw [em, cutn_from]
            refine ⟨_, _, rfl, rfl, by rw [S_len, S_len, List.length_drop]; exact sz (m := 80) (by omega) (by decide), ?_⟩
            rw [S_cat]
            refine ⟨_, rfl, R, _, rfl, .inr (SqL.of eR), ?_⟩
            refine ⟨by show 3 ≤ sizeLine; decide, fun u hu => ?_⟩
            have su := sm_new (o := .tup (.str (S (p.1 ++ q.1.drop (m + 1))) :: (txs [ab.1, ab.2] ++ []))) hu
            have eu : (upd H2 u (.tup (.str (S (p.1 ++ q.1.drop (m + 1))) :: (txs [ab.1, ab.2] ++ [])))) u = some (.tup ((kT (K60.tOf p q (m + 1))).map kV)) := by rw [upd_same, ht]; rfl
            have e3 := su _ _ e2
            have w3 := wH.trans su
            generalize upd H2 u (.tup (.str (S (p.1 ++ q.1.drop (m + 1))) :: (txs [ab.1, ab.2] ++ []))) = H3 at eu e3 w3 ⊢
            refine ⟨_, rfl, _, rfl, D, _, rfl, DPut.t (k := kT (K60.tOf p q (m + 1))) e3 eu (by unfold tK; rw [List.length_map]; exact small1000 (by have := hk1.len; omega)), ?_⟩
            rw [putT]
            exact ⟨⟨_, _, _, rfl⟩, sm_put w3 hD, _, upd_same, by rw [rawM_succ, hh, if_pos rfl, ← List.append_assoc]; exact hk1.put _⟩
        · rintro σ H2 ⟨⟨s6, s7, s8, rfl⟩, w2, ks2, e2, hk2⟩
          rw [en] at hk2
          exact ⟨⟨_, _, _, _, _, rfl⟩, w2, ks2, e2, by rw [hJ, ← List.append_assoc]; exact hk2⟩
      · rintro σ H2 ⟨⟨s4, s5, s6, s7, s8, rfl⟩, w2, ks2, e2, hk2⟩
        rw [hxl] at hk2
        exact ⟨⟨_, _, _, _, _, _, _, rfl⟩, w2, ks2, e2, by rw [rawI_succ hi, hpe]; exact hk2⟩
    · rintro σ H2 ⟨⟨s2, s3, s4, s5, s6, s7, s8, rfl⟩, w2, ks, e2, hk2⟩
      rw [hxl, rawI_all] at hk2
      have hr64 := Gr.raw (sg := sg) hsh hfew
      have hk64 := hk2.len
      have hkl : (tK ks).length = ks.length := by unfold tK; rw [List.length_map]
      refine ⟨D, _, e2, trivial, fun od => ?_⟩
      have eF : (upd H2 D (.frz od (.dT (tK ks)))) D = some (.frz od (.dT (tK ks))) := upd_same
      have kF : ∀ b o, b ≠ D → H2 b = some o → (upd H2 D (.frz od (.dT (tK ks)))) b = some o := fun b o n e => by rw [upd_ne n]; exact e
      generalize upd H2 D (.frz od (.dT (tK ks))) = HF at eF kF ⊢
      refine ⟨_, rfl, D, od, rfl, .inr ⟨_, eF, fun L hL => ?_⟩⟩
      refine lc_keepF keep_same (walk_keysT (d := D) (o := od) (kvs := tK ks)) hL (by rw [hkl]; exact small1000 (by omega)) (fun j => decide ((ks.getD j ([], [], [])).2.1 ≠ (ks.getD j ([], [], [])).2.2)) (fun j y H => ∃ q, y = .ref q ∧ H q = some (.tup ((kT (ks.getD j ([], [], []))).map kV))) (fun H r => r _ _ eF)
        (fun _ _ _ _ _ r ⟨q, e, h⟩ => ⟨q, e, r _ _ h⟩) (fun _ _ _ _ _ _ hDa ⟨q, e, h⟩ => ⟨q, e, by rw [upd_ne (ne_of h hDa (by intro h; cases h))]; exact h⟩) (fun j x H7 H7' acc N R hj r hDa hy hR hN => ?_) (fun ys H7 hly hg r7 hDs => ?_)
      · obtain ⟨rfl, kk, v, q, hkj, rfl, hqj⟩ := hy
        have hjl : j < ks.length := by rw [hkl] at hj; exact hj
        have hg8 : ks[j]? = some (ks.getD j ([], [], [])) := by rw [List.getD_eq_getElem?_getD, List.getElem?_eq_getElem hjl]; rfl
        have hkk : kT (ks.getD j ([], [], [])) = kk := by unfold tK at hkj; rw [List.getElem?_map, hg8] at hkj; exact congrArg (·.1) (Option.some.inj hkj)
        subst hkk
        generalize ks.getD j ([], [], []) = t at hqj hR hN
        refine ⟨rfl, ?_⟩
        refine ⟨_, rfl, q, _, 1, _, rfl, rfl, SqT.of hqj, rfl, _, rfl, q, _, 2, _, rfl, rfl, SqT.of hqj, rfl, rfl, _, rfl, ?_⟩
        by_cases hne : t.2.1 = t.2.2
        · refine iteN (by rw [hne]; simp) ?_
          exact hN (decide_eq_false fun h => h hne) _ (Same.refl _)
        · refine iteB (by rw [Bool.not_eq_true', decide_eq_false_iff_not]; exact fun e => hne (S_inj (V.str.inj e))) ?_
          exact ⟨_, rfl, hR (decide_eq_true hne) _ _ (Same.refl _) ⟨q, rfl, hqj⟩⟩
      · refine ⟨r7 _ _ eF, ?_⟩
        have s28 : Same H2 (upd H7 D (.dT (tK ks))) := fun b o e => by
          by_cases z : b = D
          · rw [z, e2] at e; cases e; rw [z]; exact upd_same
          · rw [upd_ne z]; exact r7 _ _ (kF b o z e)
        have k8 : ∀ b o, H7 b = some o → (∀ u, o ≠ .frz od u) → (upd H7 D (.dT (tK ks))) b = some o := fun b o e n => by
          rw [upd_ne (fun z => by rw [z, r7 _ _ eF] at e; cases e; exact n _ rfl)]; exact e
        have hD8 := k8 _ _ hDs (by intro _ z; cases z)
        rw [hkl] at hly hg
        have hf := taken_filter ks ([], [], []) (fun t => decide (t.2.1 ≠ t.2.2))
        have hp : Paired (fun y t => Dp K (upd H7 D (.dT (tK ks))) y (tri t)) ys (ks.filter fun t => decide (t.2.1 ≠ t.2.2)) := by
          rw [← hf]
          refine paired_idx (by rw [List.length_map]; exact hly) fun j y b h1 h2 => ?_
          rw [List.getElem?_map] at h2
          obtain ⟨n, hn, rfl⟩ := Option.map_eq_some_iff.mp h2
          obtain ⟨q, rfl, hq⟩ := hg j n y hn h1
          exact dp_tri (k8 _ _ hq (by intro _ z; cases z))
        have w8 := w2.trans s28
        generalize upd H7 D (.dT (tK ks)) = H8 at hD8 hp w8 ⊢
        clear k8 s28 hg hly hf hDs r7 eF kF
        refine nil1 ⟨L, ys, _, rfl, SqL.of hD8, hp, PySem.W.AllAlike.of tri_alike, PySem.W.Sortable.tuples fun t => ⟨_, _, rfl⟩, fun b _ => ?_, fun pz zs hz hpz => ?_⟩
        · show (tri b).depth ≤ 8
          unfold tri; simp [PyData.depth, PyData.depthAll]
        · have s9 := sm_new (o := .lst zs) hz
          refine nil1 ⟨pz, _, rfl, .inl ⟨SqL.of upd_same, fun so hso => ?_⟩⟩
          have s10 := sm_new (o := .tup zs) hso
          refine k so zs _ _ (w8.trans (s9.trans s10)) upd_same (pr_imp (fun _ _ h => dp_same (s9.trans s10) _ _ h) hpz) (Told.of (hk2.1.filter _) fun t => ?_)
          rw [List.mem_filter, hk2.2 t, decide_eq_true_eq]
theorem ok_ov {C : Addr} (T : BT mg) (CH : CC K C) {f_order : Addr} {fd_order : FuncData} (mg_order : mg "row_order" = some (.ref f_order)) (Fk_order : FnOk P w K mg base C8.CX0 1 f_order fd_order ["row"] spOrd) (hb_order : Binds K fd_order ["row"] [])
    {f : Addr} {fd : FuncData} (F : Def K mg "overlaps" s_ov f fd) (b : Binds K fd ["rules"] []) : Cal P w K mg base 4 "overlaps" (spOv K C) [] := ⟨⟨f, fd, _, [], fn_ov T CH mg_order Fk_order hb_order F, F.mgf, F.kp, b, .nil⟩⟩
end
end Toy
set_option maxHeartbeats 2000000
namespace Toy
open PySem L2 C8 SX LX
noncomputable def nf (ps : Ps) (a : List Nat) : List Nat := open Classical in if h : ∃ e, ∃ ms, K60.Road ps a ms e then h.choose else a
theorem nf_of {ps : Ps} {a e : List Nat} {ms : List (Nat × Nat)} (h : K60.Road ps a ms e) : nf ps a = e := by
  have h' : ∃ e, ∃ ms, K60.Road ps a ms e := ⟨e, ms, h⟩
  unfold nf
  rw [dif_pos h']
  obtain ⟨ms', r⟩ := h'.choose_spec
  exact (r.uniq h).2
theorem raw_ok {sg : List Nat} {ps : Ps} (g : Gr sg ps) (hsh : ∀ p ∈ ps, p.1.length ≤ 4) {t : K60.Tri} (h : t ∈ K60.rawOv ps) : (Ov sg t.1 ∧ t.1.length ≤ 8) ∧ (Ov sg t.2.1 ∧ t.2.1.length ≤ 8) ∧ (Ov sg t.2.2 ∧ t.2.2.length ≤ 8) := by
  obtain ⟨a, b, ho, ht⟩ := K60.raw_ovl h
  have hrow : Ov sg t.1 ∧ t.1.length ≤ 8 := by
    obtain ⟨p, hp, q, hq, u, v, w, _, _, _, e1, e2, er, _, _⟩ := id ho
    have l1 := hsh p hp
    have l2 := hsh q hq
    have o1 := (g.dn p hp).1
    have o2 := (g.dn q hq).1
    rw [e1] at l1 o1
    rw [e2] at l2 o2
    rw [er]
    refine ⟨fun c hc => ?_, ?_⟩
    · rcases List.mem_append.mp hc with hc | hc
      · exact o1 c hc
      · exact o2 c (List.mem_append_right _ hc)
    · simp only [List.length_append] at *; omega
  have ha := K60.stp_down g.mn g.asc g.down g.pos hrow.1 ho.stp1
  have hb := K60.stp_down g.mn g.asc g.down g.pos hrow.1 ho.stp2
  have ha' : Ov sg a ∧ a.length ≤ 8 := ⟨ha.1, Nat.le_trans ha.2.2 hrow.2⟩
  have hb' : Ov sg b ∧ b.length ≤ 8 := ⟨hb.1, Nat.le_trans hb.2.2 hrow.2⟩
  rcases ht with ht | ht
  · rw [ht]; exact ⟨hrow, ha', hb'⟩
  · rw [ht]; exact ⟨hrow, hb', ha'⟩
theorem paired_get {α β : Type} {F : α → β → Prop} : ∀ {as : List α} {bs : List β}, Paired F as bs → ∀ (j : Nat) a b, as[j]? = some a → bs[j]? = some b → F a b
  | _, _, .nil, j, a, b, h, _ => by simp at h
  | _, _, .cons h _, 0, a, b, e1, e2 => by cases e1; cases e2; exact h
  | _, _, .cons _ t, j + 1, a, b, e1, e2 => paired_get t j a b e1 e2
theorem tri_dp {K : PySem.W.Frag} {H : Hp} {x : V} {t : K60.Tri} (h : Dp K H x (tri t)) : ∃ q, x = .ref q ∧ SqT K H q [.str (S t.1), .str (S t.2.1), .str (S t.2.2)] := by
  unfold tri at h
  cases h with
  | tup q r =>
    cases r with
    | cons a r => cases r with
      | cons b r => cases r with
        | cons c r =>
          cases r; cases a; cases b; cases c
          exact ⟨_, rfl, q⟩
theorem tri_eq (t : K60.Tri) : tri t = tD [t.1, t.2.1, t.2.2] := rfl
def SmallT (ts : List K60.Tri) : Prop := ∀ t ∈ ts, Small [t.1, t.2.1, t.2.2]
theorem lay_tri : ∀ {ts : List K60.Tri}, SmallT ts → PyData.canLayAll0 (ts.map tri) = true ∧ PyData.depthAll (ts.map tri) ≤ 4
  | [], _ => ⟨rfl, Nat.zero_le _⟩
  | p :: ps, h => by
    obtain ⟨h1, h2⟩ := lay_tri (ts := ps) fun q hq => h q (List.mem_cons_of_mem _ hq)
    obtain ⟨g1, g2⟩ := lay_strs (h p List.mem_cons_self)
    refine ⟨?_, ?_⟩
    · show (PyData.canLay0 (tri p) && PyData.canLayAll0 (ps.map tri)) = true
      rw [h1, Bool.and_true]
      exact g1
    · show max (PyData.depth (tri p)) (PyData.depthAll (ps.map tri)) ≤ 4
      have : PyData.depth (tri p) ≤ 4 := by
        show PyData.depthAll _ + 1 ≤ 4
        have g2' : PyData.depthAll [PyData.str (S p.1), PyData.str (S p.2.1), PyData.str (S p.2.2)] ≤ 1 := g2
        omega
      omega
theorem shaped_tris {ts : List K60.Tri} (h : SmallT ts) (b : Bool) : SeqAt.shaped (seqD b (ts.map tri)) = true := by
  obtain ⟨h1, h2⟩ := lay_tri h
  cases b
  · show (PyData.canLayAll0 _ && decide (PyData.depthAll _ + 1 ≤ 64)) = true
    rw [h1, Bool.true_and, decide_eq_true_eq]; omega
  · show (PyData.canLayAll0 _ && decide (PyData.depthAll _ + 1 ≤ 64)) = true
    rw [h1, Bool.true_and, decide_eq_true_eq]; omega
theorem three_inj : ∀ {a b : List K60.Tri}, a.map (fun t => [t.1, t.2.1, t.2.2]) = b.map (fun t => [t.1, t.2.1, t.2.2]) → a = b
  | [], [], _ => rfl
  | [], _ :: _, h => by cases h
  | _ :: _, [], h => by cases h
  | x :: xs, y :: ys, h => by
    simp only [List.map_cons, List.cons.injEq, and_true] at h
    rw [three_inj h.2, Prod.ext h.1.1 (Prod.ext h.1.2.1 h.1.2.2)]
theorem eqv_tris (a b : List K60.Tri) : PyData.eqvAll (a.map tri) (b.map tri) = decide (a = b) := by
  have e : ∀ l : List K60.Tri, l.map tri = (l.map fun t => [t.1, t.2.1, t.2.2]).map tD := fun l => by rw [List.map_map]; rfl
  rw [e, e, eqv_tts]
  exact decide_eq_decide.mpr ⟨three_inj, fun h => by rw [h]⟩
theorem eqv_trisS (a b : List K60.Tri) (c : Bool) : PyData.eqv (seqD c (a.map tri)) (seqD c (b.map tri)) = decide (a = b) := by
  cases c
  · exact eqv_tris a b
  · exact eqv_tris a b
theorem dpa_of {K : PySem.W.Frag} {H : Hp} : ∀ {xs : List V} {ts : List K60.Tri}, Paired (fun x t => Dp K H x (tri t)) xs ts → DpAll K H xs (ts.map tri)
  | _, _, .nil => .nil
  | _, _, .cons h t => .cons h (dpa_of t)
theorem raw_small {sg : List Nat} {ps : Ps} (g : Gr sg ps) (hsh : ∀ p ∈ ps, p.1.length ≤ 4) {ts : List K60.Tri} (h : ∀ t ∈ ts, t ∈ K60.rawOv ps) : SmallT ts := fun t ht l hl c hc => by
  obtain ⟨⟨o1, _⟩, ⟨o2, _⟩, o3, _⟩ := raw_ok g hsh (h t ht)
  simp only [List.mem_cons, List.not_mem_nil, or_false] at hl
  rcases hl with rfl | rfl | rfl
  · exact g.sm c (o1 c hc)
  · exact g.sm c (o2 c hc)
  · exact g.sm c (o3 c hc)
noncomputable def opens (ps : Ps) (ts : List K60.Tri) : List K60.Tri := ts.filter fun t => decide (nf ps t.2.1 ≠ nf ps t.2.2)
section
variable {P : Program} {w : World} {K : PySem.W.Frag} {mg : Str → Option Value} {base : Heap}
abbrev s_open : Stmt := top 18
abbrev n_open : List Str := ["rules", "triple"]
theorem sc_open : FnScope n_open ["rules"] (fnScope s_open) := fnScope_by (by decide +kernel)
def spOpen (K : PySem.W.Frag) (C : Addr) : Sp := fun vs H Q _ => ∃ (a : Addr) (sg : List Nat) (ps : Ps), vs = [.ref a] ∧ Rul K C H a sg ps ∧ Gr sg ps ∧ (∀ p ∈ ps, p.1.length ≤ 4) ∧ ps.length ≤ 4 ∧
  ∀ (p : Addr) (xs : List V) (ts : List K60.Tri) (H' : Hp), Same H H' → H' p = some (.tup xs) → Told ps ts → Paired (fun x t => Dp K H' x (tri t)) xs (opens ps ts) → Q (.ref p) H'
theorem fn_open {C : Addr} (T : BT mg) (CH : CC K C) (c_ov : Cal P w K mg base 4 "overlaps" (spOv K C) []) (c_reduced : Met P w K mg base 3 C "reduced" (spReduced K C) []) {f : Addr} {fd : FuncData} (F : Def K mg "open_overlaps" s_open f fd) : FnOk P w K mg base C8.CX0 5 f fd ["rules"] (spOpen K C) := by
  refine fn0 F.fn sc_open (fun vs H Q E h => ?_) (fun cdv A outer s H vs Q E hr h => ?_)
  · obtain ⟨a, sg, ps, rfl, _⟩ := h; rfl
  · obtain ⟨a, sg, ps, rfl, hc, g, hsh, hfew, k⟩ := h
    refine ⟨_, (pss_one (ps_ret (pe_callTy (tupleK K) (by rfl) T.m_tuple PyProof.Rows.boot_tuple (pa_cons (pe_lc (own := [("triple", 1)]) rfl sc_open.nd (pi_tup (pe_c c_ov hr (by first | decide | omega) (by rfl) (pa_cons (pv 0) pa_nil))) (blkOk_by (N := n_open) (sc := fnScope s_open) (by decide +kernel)) (fun _ _ _ _ _ => (pg_name (i := 1) sc_open.nd rfl (.inl rfl))) (fun _ _ _ _ _ => pts_one (pt_cmpR op_ne (pe_mt c_reduced hr (by decide) (pv 0) (pa_cons (pe_ix (ixt K) (pv 1) pe_int (fun _ _ => rfl)) pa_nil)) (pe_mt c_reduced hr (by decide) (pv 0) (pa_cons (pe_ix (ixt K) (pv 1) pe_int (fun _ _ => rfl)) pa_nil)) (nomark _))) (fun _ _ _ _ _ => (pv 1))) pa_nil)))
      ), ?_⟩
    refine ⟨_, rfl, a, sg, ps, rfl, hc, g, hsh, hfew, fun p xs ts H1 w1 hp hxs htd => ?_⟩
    have hxl := paired_len hxs
    have hfe := htd.few (K60.raw_len hsh hfew)
    refine ⟨p, rfl, ⟨_, SqT.of hp⟩, fun L hL => ?_⟩
    refine lc_keepF keep_same (walk_tup (K := K) (a := p) (xs := xs)) hL (by rw [hxl]; exact small1000 (by omega)) (fun j => decide (nf ps (ts.getD j ([], [], [])).2.1 ≠ nf ps (ts.getD j ([], [], [])).2.2)) (fun j y H => xs[j]? = some y) (fun H r => sm_seqT r (SqT.of hp))
        (fun _ _ _ _ _ r h => h) (fun _ _ _ _ _ _ hDa h => h) (fun j x H7 H7' acc N R hj r hDa hy hR hN => ?_) (fun ys H7 hly hg r7 hDs => ?_)
    · obtain ⟨rfl, hx⟩ := hy
      rw [hxl] at hj
      have hg8 : ts[j]? = some (ts.getD j ([], [], [])) := by rw [List.getD_eq_getElem?_getD, List.getElem?_eq_getElem hj]; rfl
      have hmem := ((htd.mem _).mp (List.mem_of_getElem? hg8)).1
      obtain ⟨q, rfl, hq⟩ := tri_dp (paired_get hxs j _ _ hx hg8)
      generalize ts.getD j ([], [], []) = t at hq hR hN hmem
      obtain ⟨_, ⟨o1, l1⟩, o2, l2⟩ := raw_ok g hsh hmem
      obtain ⟨dx, r0, ha, _⟩ := id hc
      refine ⟨rfl, ?_⟩
      refine ⟨_, rfl, a, dx, _, rfl, (w1.trans r) _ _ ha, ruF_no _ _ (by decide +kernel) (by decide +kernel), _, rfl, q, _, 1, _, rfl, rfl, sm_seqT r hq, rfl, a, sg, ps, t.2.1, rfl, hc.same (w1.trans r), g, o1, by omega, fun m1 e1 H8 s8 hr1 _ _ => ?_⟩
      refine ⟨_, rfl, a, dx, _, rfl, (w1.trans (r.trans s8)) _ _ ha, ruF_no _ _ (by decide +kernel) (by decide +kernel), _, rfl, q, _, 2, _, rfl, rfl, sm_seqT (r.trans s8) hq, rfl, a, sg, ps, t.2.2, rfl, hc.same (w1.trans (r.trans s8)), g, o2, by omega, fun m2 e2 H9 s9 hr2 _ _ => ?_⟩
      rw [nf_of hr1, nf_of hr2] at hR hN
      refine ⟨rfl, _, rfl, ?_⟩
      by_cases hne : e1 = e2
      · refine iteN (by rw [hne]; simp) ?_
        exact hN (decide_eq_false fun h => h hne) _ (s8.trans s9)
      · refine iteB (by rw [Bool.not_eq_true', decide_eq_false_iff_not]; exact fun e => hne (S_inj (V.str.inj e))) ?_
        exact ⟨_, rfl, hR (decide_eq_true hne) _ _ (s8.trans s9) hx⟩
    · rw [hxl] at hly hg
      have hf := taken_filter ts ([], [], []) (fun t => decide (nf ps t.2.1 ≠ nf ps t.2.2))
      refine nil1 ⟨L, ys, rfl, .inl ⟨SqL.of hDs, fun so hso => ?_⟩⟩
      have s10 := sm_new (o := .tup ys) hso
      refine k so ys ts _ (w1.trans (r7.trans s10)) upd_same htd ?_
      unfold opens
      rw [← hf]
      refine paired_idx (by rw [List.length_map]; exact hly) fun j y b h1 h2 => ?_
      rw [List.getElem?_map] at h2
      obtain ⟨n, hn, rfl⟩ := Option.map_eq_some_iff.mp h2
      have hx := hg j n y hn h1
      have hnl : n < ts.length := by
        have := List.mem_of_getElem? hn
        exact List.mem_range.mp (List.mem_filter.mp this).1
      have hg8 : ts[n]? = some (ts.getD n ([], [], [])) := by rw [List.getD_eq_getElem?_getD, List.getElem?_eq_getElem hnl]; rfl
      exact dp_same (r7.trans s10) _ _ (paired_get hxs n _ _ hx hg8)
abbrev s_compl : Stmt := top 19
abbrev n_compl : List Str := ["rules"]
theorem sc_compl : FnScope n_compl ["rules"] (fnScope s_compl) := fnScope_by (by decide +kernel)
def spCompl (K : PySem.W.Frag) (C : Addr) : Sp := fun vs H Q _ => ∃ (a : Addr) (sg : List Nat) (ps : Ps), vs = [.ref a] ∧ Rul K C H a sg ps ∧ Gr sg ps ∧ (∀ p ∈ ps, p.1.length ≤ 4) ∧ ps.length ≤ 4 ∧
  ∀ (ts : List K60.Tri) (H' : Hp), Same H H' → Told ps ts → Q (.bl (decide (opens ps ts = []))) H'
theorem fn_compl {C : Addr} (T : BT mg) (CH : CC K C) (c_open : Cal P w K mg base 5 "open_overlaps" (spOpen K C) []) {f : Addr} {fd : FuncData} (F : Def K mg "is_complete" s_compl f fd) : FnOk P w K mg base C8.CX0 6 f fd ["rules"] (spCompl K C) := by
  refine fn0 F.fn sc_compl (fun vs H Q E h => ?_) (fun cdv A outer s H vs Q E hr h => ?_)
  · obtain ⟨a, sg, ps, rfl, _⟩ := h; rfl
  · obtain ⟨a, sg, ps, rfl, hc, g, hsh, hfew, k⟩ := h
    refine ⟨_, (pss_one (ps_ret (pe_cmpR (op_eqDK K hr) (pe_c c_open hr (by first | decide | omega) (by rfl) (pa_cons (pv 0) pa_nil)) (pe_tup pa_nil) (nomark _)))
      ), ?_⟩
    refine ⟨_, rfl, a, sg, ps, rfl, hc, g, hsh, hfew, fun p xs ts H1 w1 hp htd hxs => ?_⟩
    refine ⟨by show 0 ≤ sizeLine; decide, fun e he => ?_⟩
    have we := sm_new (o := .tup []) he
    have hm : ∀ t ∈ opens ps ts, t ∈ K60.rawOv ps := fun t ht => ((htd.mem t).mp (List.mem_filter.mp ht).1).1
    refine ⟨.tuple ((opens ps ts).map tri), .tuple ([].map tri), .tup (SqT.of (we _ _ hp)) (dpa_of (pr_imp (fun _ _ h => dp_same we _ _ h) hxs)), .tup (SqT.of upd_same) .nil, shaped_tris (raw_small g hsh hm) false, shaped_tris (ts := []) (fun _ h => nomatch h) false, ?_⟩
    rw [show PyData.eqv (.tuple ((opens ps ts).map tri)) (.tuple ([].map tri)) = _ from eqv_trisS (opens ps ts) [] false]
    exact k ts _ (w1.trans we) htd
end
end Toy
set_option maxHeartbeats 2000000
namespace Toy
open PySem L2 C8 SX LX
theorem notInDK {X : Cx} {j : Nat} (K : PySem.W.Frag) (hr : Room j X.A) (h : X.K = K := by rfl) : OpR X (compareOp .NotIn) (rNotInD K) := by subst h; exact op_notInD (by have := hr.un; omega)
def TrAt (H : Hp) (us : List Addr) (ks : List K60.Tri) : Prop := Paired (fun u t => H u = some (.tup [.str (S t.1), .str (S t.2.1), .str (S t.2.2)])) us ks
theorem TrAt.same {H H' : Hp} {qs : List Addr} {l : List K60.Tri} (s : Same H H') (h : TrAt H qs l) : TrAt H' qs l := pr_imp (fun _ _ e => s _ _ e) h
theorem TrAt.put {H : Hp} {D : Addr} {acc : List V} {o : HO} {qs : List Addr} {l : List K60.Tri} (hD : H D = some (.lst acc)) (h : TrAt H qs l) : TrAt (upd H D o) qs l := pr_imp (fun _ _ e => by rw [upd_ne (fun z => by rw [z, hD] at e; cases e)]; exact e) h
theorem TrAt.dp {K : PySem.W.Frag} {H : Hp} : ∀ {qs : List Addr} {l : List K60.Tri}, TrAt H qs l → Paired (fun x t => Dp K H x (tri t)) (qs.map V.ref) l
  | _, _, .nil => .nil
  | _, _, .cons h1 h2 => .cons (dp_tri h1) (TrAt.dp h2)
structure DsOk (ks l : List K60.Tri) : Prop where
  nd : ks.Nodup
  mem : ∀ t, t ∈ ks ↔ t ∈ l ∧ t.2.1 ≠ t.2.2
theorem DsOk.nil : DsOk [] [] := ⟨List.nodup_nil, fun t => by simp⟩
theorem DsOk.skip {ks l : List K60.Tri} (h : DsOk ks l) {t : K60.Tri} (ht : t.2.1 ≠ t.2.2 → t ∈ ks) : DsOk ks (l ++ [t]) := ⟨h.nd, fun x => by
  rw [h.mem x, List.mem_append, List.mem_singleton]
  refine ⟨fun ⟨a, b⟩ => ⟨.inl a, b⟩, fun ⟨a, b⟩ => ?_⟩
  rcases a with a | rfl
  · exact ⟨a, b⟩
  · exact (h.mem _).mp (ht b)⟩
theorem DsOk.put {ks l : List K60.Tri} (h : DsOk ks l) {t : K60.Tri} (ht : t.2.1 ≠ t.2.2) (hn : t ∉ ks) : DsOk (ks ++ [t]) (l ++ [t]) := by
  refine ⟨List.nodup_append.mpr ⟨h.nd, by simp, fun a ha b hb => ?_⟩, fun x => ?_⟩
  · rw [List.mem_singleton.mp hb]
    exact fun z => hn (z ▸ ha)
  · rw [List.mem_append, List.mem_append, List.mem_singleton, h.mem x]
    refine ⟨fun a => ?_, fun ⟨a, b⟩ => ?_⟩
    · rcases a with ⟨a, b⟩ | rfl
      · exact ⟨.inl a, b⟩
      · exact ⟨.inr rfl, ht⟩
    · rcases a with a | a
      · exact .inl ⟨a, b⟩
      · exact .inr a
theorem DsOk.len {ks l : List K60.Tri} (h : DsOk ks l) : ks.length ≤ l.length := nodup_le h.nd fun t ht => ((h.mem t).mp ht).1
theorem rawIJM_raw {ps : Ps} {i j m : Nat} (hi : i < ps.length) (hj : j < ps.length) (hm : m ≤ min (ps.getD i ([], [])).1.length (ps.getD j ([], [])).1.length - 1) : ∀ t ∈ rawI ps i ++ rawJ ps (ps.getD i ([], [])) j ++ rawM (ps.getD i ([], [])) (ps.getD j ([], [])) m, t ∈ K60.rawOv ps := fun t ht => by
  unfold K60.rawOv
  rcases List.mem_append.mp ht with ht | ht
  · rcases List.mem_append.mp ht with ht | ht
    · unfold rawI at ht
      obtain ⟨p, hp, h⟩ := List.mem_flatMap.mp ht
      exact List.mem_flatMap.mpr ⟨p, List.mem_of_mem_take hp, h⟩
    · unfold rawJ at ht
      obtain ⟨q, hq, h⟩ := List.mem_flatMap.mp ht
      exact List.mem_flatMap.mpr ⟨_, K60.getD_mem2 hi, List.mem_flatMap.mpr ⟨q, List.mem_of_mem_take hq, h⟩⟩
  · unfold rawM at ht
    obtain ⟨k, hk, rfl⟩ := List.mem_map.mp ht
    obtain ⟨h1, h2⟩ := List.mem_filter.mp hk
    refine List.mem_flatMap.mpr ⟨_, K60.getD_mem2 hi, List.mem_flatMap.mpr ⟨_, K60.getD_mem2 hj, ?_⟩⟩
    unfold K60.atOv
    refine List.mem_map.mpr ⟨k, List.mem_filter.mpr ⟨?_, h2⟩, rfl⟩
    rw [List.mem_range'_1] at h1 ⊢
    omega
theorem any_tri (ks : List K60.Tri) (t : K60.Tri) : ((ks.map tri).any fun z => PyData.eqv z (tri t)) = decide (t ∈ ks) := by
  have e : ∀ z, PyData.eqv (tri z) (tri t) = decide (z = t) := fun z => by
    have := eqv_tris [z] [t]
    have h2 : PyData.eqvAll [tri z] [tri t] = (PyData.eqv (tri z) (tri t) && true) := rfl
    rw [List.map_cons, List.map_nil, List.map_cons, List.map_nil, h2, Bool.and_true] at this
    rw [this]
    exact decide_eq_decide.mpr ⟨fun h => by cases h; rfl, fun h => by rw [h]⟩
  rw [List.any_map]
  by_cases h : t ∈ ks
  · rw [decide_eq_true h]
    exact List.any_eq_true.mpr ⟨t, h, by show PyData.eqv (tri t) (tri t) = true; rw [e]; exact decide_eq_true rfl⟩
  · rw [decide_eq_false h, List.any_eq_false]
    intro z hz q
    have q : PyData.eqv (tri z) (tri t) = true := q
    rw [e] at q
    exact h (of_decide_eq_true q ▸ hz)
section
variable {P : Program} {w : World} {K : PySem.W.Frag} {mg : Str → Option Value} {base : Heap}
abbrev s_lov : Stmt := top 31
abbrev n_lov : List Str := ["pairs", "found", "left", "right", "other", "lesser", "many", "row", "some"]
theorem sc_lov : FnScope n_lov ["pairs"] (fnScope s_lov) := fnScope_by (by decide +kernel)
def spLOv (K : PySem.W.Frag) : Sp := fun vs H Q _ => ∃ (pl : Addr) (qs : List Addr) (sg : List Nat) (ps : Ps), vs = [.ref pl] ∧ H pl = some (.lst (qs.map V.ref)) ∧ PrAt H qs ps ∧ Gr sg ps ∧ (∀ p ∈ ps, p.1.length ≤ 4) ∧ ps.length ≤ 4 ∧
  ∀ (fl : Addr) (us : List Addr) (ks : List K60.Tri) (H' : Hp), Same H H' → H' fl = some (.lst (us.map V.ref)) → TrAt H' us ks → DsOk ks (K60.rawOv ps) → Q (.ref fl) H'
theorem ok_lov (T : BT mg) {f_rank : Addr} {fd_rank : FuncData} (mg_rank : mg "_law_rank" = some (.ref f_rank)) (Fk_rank : FnOk P w K mg base C8.CX0 1 f_rank fd_rank ["row"] spOrd) (hb_rank : Binds K fd_rank ["row"] [])
    {f : Addr} {fd : FuncData} (F : Def K mg "_law_overlaps" s_lov f fd) (b : Binds K fd ["pairs"] []) : Cal P w K mg base 4 "_law_overlaps" (spLOv K) [] := by
  refine cal0 F b .nil sc_lov (fun vs H Q E h => ?_) (fun cdv A outer s H vs Q E hr h => ?_)
  · obtain ⟨pl, qs, sg, ps, rfl, _⟩ := h; rfl
  · obtain ⟨pl, qs, sg, ps, rfl, hpl, hpr, g, hsh, hfew, k⟩ := h
    have hql := hpr.len
    refine ⟨_, (pss_cons (ps_set (i := 1) sc_lov.nd rfl (.inl rfl) (pe_lst pa_nil))
      (pss_cons (ps_for PassesOwn.never rfl (pi_list (pv 0)) (tupK K 2 (pgs_cons (pg_name (i := 2) sc_lov.nd rfl (.inl rfl)) (pgs_cons (pg_name (i := 3) sc_lov.nd rfl (.inl rfl)) pgs_nil))) 
        (pss_one (ps_for PassesOwn.never rfl (pi_list (pv 0)) (tupK K 2 (pgs_cons (pg_name (i := 4) sc_lov.nd rfl (.inl rfl)) (pgs_cons (pg_name (i := 5) sc_lov.nd rfl (.inl rfl)) pgs_nil))) 
          (pss_one (ps_for PassesOwn.never rfl (pi_range2 (by rfl) T.m_range (pa_cons pe_int (pa_cons (pe_callB (call_min2 rfl) (by rfl) T.m_min PyProof.Rows.boot_min (pa_cons (pe_callB call_len_str (by rfl) T.m_len PySem.boot_len (pa_cons (pv 2) pa_nil)) (pa_cons (pe_callB call_len_str (by rfl) T.m_len PySem.boot_len (pa_cons (pv 4) pa_nil)) pa_nil))) pa_nil))) (pg_name (i := 6) sc_lov.nd rfl (.inl rfl)) 
            (pss_one (ps_if (pt_val (pe_bm PySem.F.plainAttrs_str PySem.F.slot_str_endswith PySem.F.type_str_endswith mt_endswith (pv 2) (pa_cons (pe_slice sl_txt (pv 4) po_none (po_some (pv 6))) pa_nil))) 
              (pss_cons (ps_set (i := 7) sc_lov.nd rfl (.inl rfl) (pe_op op_add_str (pv 2) (pe_slice sl_txt (pv 4) (po_some (pv 6)) po_none)))
              (pss_cons (ps_set (i := 8) sc_lov.nd rfl (.inl rfl) (pe_callBK (cr_sortedKey2 Fk_rank (hr.mono (by decide)) hb_rank) (by rfl) T.m_sorted PyProof.Rows.boot_sorted (pa_cons (pe_lst (pa_cons (pe_op op_add_str (pv 3) (pe_slice sl_txt (pv 4) (po_some (pv 6)) po_none)) (pa_cons (pe_op op_add_str (pe_slice sl_txt (pv 2) po_none (po_some (pe_op op_sub (pe_callB call_len_str (by rfl) T.m_len PySem.boot_len (pa_cons (pv 2) pa_nil)) (pv 6)))) (pv 5)) pa_nil))) pa_nil) (pk_cons (pe_glob (v := .ref f_rank) (by rfl) mg_rank rfl) pk_nil)))
              (pss_one (ps_if (PW.pt (pw_and (pt_cmpR op_ne (pe_ix (ixl K) (pv 8) pe_int (fun _ _ => rfl)) (pe_ix (ixl K) (pv 8) pe_int (fun _ _ => rfl)) (nomark _)) (pw_and1 (pt_cmpR (notInDK K hr) (pe_tup (pa_cons (pv 7) (pa_cons (pe_ix (ixl K) (pv 8) pe_int (fun _ _ => rfl)) (pa_cons (pe_ix (ixl K) (pv 8) pe_int (fun _ _ => rfl)) pa_nil)))) (pv 1) rfl)))) 
                (pss_one (ps_expr (pe_bm PySem.F.plainAttrs_list PySem.F.slot_list_append PySem.F.type_list_append mt_append (pv 1) (pa_cons (pe_tup (pa_cons (pv 7) (pa_cons (pe_ix (ixl K) (pv 8) pe_int (fun _ _ => rfl)) (pa_cons (pe_ix (ixl K) (pv 8) pe_int (fun _ _ => rfl)) pa_nil)))) pa_nil)))
                )
               pss_nil)
              )))
             pss_nil)
            ))
          ))
        ))
      (pss_one (ps_ret (pv 1))
      ))), ?_⟩
    refine ⟨by show 0 ≤ sizeLine; decide, fun fl hfl => ?_⟩
    have w1 := sm_new (o := .lst []) hfl
    have e1 : (upd H fl (.lst [])) fl = some (.lst ([].map V.ref)) := upd_same
    generalize upd H fl (.lst []) = H1 at w1 e1 ⊢
    have npf : ∀ {H'}, Same H H' → H' pl = some (.lst (qs.map V.ref)) := fun s => s _ _ hpl
    refine ⟨_, rfl, pl, rfl, ⟨_, SqL.of (npf w1)⟩, ?_⟩
    refine for_it (walk_list (K := K) (a := pl) (xs := qs.map V.ref)) (fun i σ H' => (∃ s2 s3 s4 s5 s6 s7 s8 : Option V, σ = [some (.ref pl), some (.ref fl), s2, s3, s4, s5, s6, s7, s8]) ∧ Same H H' ∧ ∃ us ks, H' fl = some (.lst (us.map V.ref)) ∧ TrAt H' us ks ∧ DsOk ks (rawI ps i))
      ⟨⟨_, _, _, _, _, _, _, rfl⟩, w1, [], [], e1, .nil, .nil⟩ (fun _ _ _ _ h => SqL.of (npf h.2.1)) ?_ ?_
    · clear e1 w1 H1
      rintro i x σ H1 H1' hi ⟨⟨s2, s3, s4, s5, s6, s7, s8, rfl⟩, w1, us, ks, e1, t1, hk1⟩ ⟨rfl, hx⟩
      rw [List.length_map, hql] at hi
      obtain ⟨q1, hx1, hq1⟩ := hpr.at i hi
      rw [List.getElem?_map, hx1] at hx
      obtain rfl := Option.some.inj hx
      have hp4 : (ps.getD i ([], [])).1.length ≤ 4 := hsh _ (K60.getD_mem2 hi)
      have hp5 : (ps.getD i ([], [])).2.length ≤ 40 := g.short2 _ (K60.getD_mem2 hi)
      refine ⟨q1, _, rfl, SqT.of (w1 _ _ hq1), rfl, _, _, rfl, _, _, rfl, rfl, ?_⟩
      refine ⟨_, rfl, pl, rfl, ⟨_, SqL.of (npf w1)⟩, ?_⟩
      have hraw := fun j (hj : j < ps.length) m (hm : m ≤ min (ps.getD i ([], [])).1.length (ps.getD j ([], [])).1.length - 1) => rawIJM_raw hi hj hm
      generalize hpe : ps.getD i ([], []) = p at hx1 hq1 hp4 hp5 hraw ⊢
      refine for_it (walk_list (K := K) (a := pl) (xs := qs.map V.ref)) (fun j σ H' => (∃ s4 s5 s6 s7 s8 : Option V, σ = [some (.ref pl), some (.ref fl), some (.str (S p.1)), some (.str (S p.2)), s4, s5, s6, s7, s8]) ∧ Same H H' ∧ ∃ us ks, H' fl = some (.lst (us.map V.ref)) ∧ TrAt H' us ks ∧ DsOk ks (rawI ps i ++ rawJ ps p j))
        ⟨⟨_, _, _, _, _, rfl⟩, w1, us, ks, e1, t1, by rw [show rawJ ps p 0 = [] from rfl, List.append_nil]; exact hk1⟩ (fun _ _ _ _ h => SqL.of (npf h.2.1)) ?_ ?_
      · clear e1 w1 H1' hk1 ks s2 s3 s4 s5 s6 s7 s8 t1 us
        rintro j x σ H1 H1' hj ⟨⟨s4, s5, s6, s7, s8, rfl⟩, w1, us, ks, e1, t1, hk1⟩ ⟨rfl, hx⟩
        rw [List.length_map, hql] at hj
        obtain ⟨q2, hx2, hq2⟩ := hpr.at j hj
        rw [List.getElem?_map, hx2] at hx
        obtain rfl := Option.some.inj hx
        have hq4 : (ps.getD j ([], [])).1.length ≤ 4 := hsh _ (K60.getD_mem2 hj)
        have hq5 : (ps.getD j ([], [])).2.length ≤ 40 := g.short2 _ (K60.getD_mem2 hj)
        refine ⟨q2, _, rfl, SqT.of (w1 _ _ hq2), rfl, _, _, rfl, _, _, rfl, rfl, ?_⟩
        have hJ := rawJ_succ (p := p) hj
        have hraw := hraw j hj
        generalize ps.getD j ([], []) = q at hx2 hq2 hq4 hq5 hJ hraw ⊢
        have emin : (if (((S q.1).length : Nat) : Int) < (((S p.1).length : Nat) : Int) then (((S q.1).length : Nat) : Int) else (((S p.1).length : Nat) : Int)) = ((min p.1.length q.1.length : Nat) : Int) := by rw [S_len, S_len]; split <;> omega
        refine ⟨_, rfl, _, rfl, by rw [S_len]; exact sz hp4 (by decide), _, rfl, _, rfl, by rw [S_len]; exact sz hq4 (by decide), ?_⟩
        refine ⟨_, _, rfl, ?_⟩
        rw [emin]
        refine ⟨_, _, rfl, ⟨by omega, by omega, by omega, by omega⟩, ?_⟩
        have en : (((min p.1.length q.1.length : Nat) : Int) - 1).toNat = min p.1.length q.1.length - 1 := by omega
        refine for_it (walk_range (lo := 1) (n := (((min p.1.length q.1.length : Nat) : Int) - 1).toNat)) (fun m σ H' => (∃ s6 s7 s8 : Option V, σ = [some (.ref pl), some (.ref fl), some (.str (S p.1)), some (.str (S p.2)), some (.str (S q.1)), some (.str (S q.2)), s6, s7, s8]) ∧ Same H H' ∧ ∃ us ks, H' fl = some (.lst (us.map V.ref)) ∧ TrAt H' us ks ∧ DsOk ks (rawI ps i ++ rawJ ps p j ++ rawM p q m))
          ⟨⟨_, _, _, rfl⟩, w1, us, ks, e1, t1, by rw [show rawM p q 0 = [] from rfl, List.append_nil]; exact hk1⟩ (fun _ _ _ _ _ => trivial) ?_ ?_
        · clear e1 w1 H1' hk1 ks s4 s5 s6 s7 s8 t1 us
          rintro m x σ H1 H1' hm ⟨⟨s6, s7, s8, rfl⟩, w1, us, ks, e1, t1, hk1⟩ ⟨rfl, rfl⟩
          rw [en] at hm
          have bq : (S q.1).length ≤ sizeLine := by rw [S_len]; exact sz hq4 (by decide)
          have bp : (S p.1).length ≤ sizeLine := by rw [S_len]; exact sz hp4 (by decide)
          have em : (1 : Int) + (m : Int) = ((m + 1 : Nat) : Int) := by omega
          refine ⟨_, rfl, rfl, _, rfl, _, rfl, _, rfl, _, rfl, bq, ?_⟩
          refine ⟨_, _, rfl, rfl, _, rfl, ?_⟩
          rw [em, cutn_to, ends_drop _ _ _ (by omega) (by omega)]
          cases hh : K60.ovT p q (m + 1) with
          | false =>
            refine iteN hh ?_
            exact ⟨⟨_, _, _, rfl⟩, w1, us, ks, e1, t1, by rw [rawM_succ, hh]; exact (List.append_nil _).symm ▸ hk1⟩
          | true =>
            refine iteB hh ?_
            have hm1 : m + 1 ≤ p.1.length := by omega
            have hm2 : m + 1 ≤ q.1.length := by omega
            have hlen := rawI_len hsh hfew (i := i) (j := j) (k := m) (p := p) (q := q) hp4 (by omega)
            have hks := raw_small g hsh fun t ht => hraw m (by omega) t ((hk1.mem t).mp ht).1
            have hts := raw_small g hsh (ts := [K60.tOf p q (m + 1)]) fun t ht => by
              rw [List.mem_singleton.mp ht]
              exact hraw (m + 1) (by omega) _ (by rw [rawM_succ, hh, if_pos rfl, ← List.append_assoc]; exact List.mem_append_right _ List.mem_cons_self)
            have hsucc : rawI ps i ++ rawJ ps p j ++ rawM p q (m + 1) = rawI ps i ++ rawJ ps p j ++ rawM p q m ++ [K60.tOf p q (m + 1)] := by rw [rawM_succ, hh, if_pos rfl, ← List.append_assoc]
            have ht : K60.tOf p q (m + 1) = (p.1 ++ q.1.drop (m + 1), K60.srt (p.2 ++ q.1.drop (m + 1)) (p.1.take (p.1.length - (m + 1)) ++ q.2)) := rfl
            refine ⟨_, rfl, _, rfl, _, rfl, _, rfl, _, rfl, bq, ?_⟩
            rw [em, cutn_from]
            refine ⟨_, _, rfl, rfl, by rw [S_len, S_len, List.length_drop]; exact sz (m := 80) (by omega) (by decide), ?_⟩
            rw [S_cat]
            refine ⟨_, rfl, _, rfl, _, rfl, _, rfl, _, rfl, bq, ?_⟩
            rw [em, cutn_from]
            refine ⟨_, _, rfl, rfl, by rw [S_len, S_len, List.length_drop]; exact sz (m := 80) (by omega) (by decide), ?_⟩
            rw [S_cat]
            refine ⟨_, rfl, _, rfl, _, rfl, bp, _, rfl, _, _, rfl, rfl, _, rfl, _, rfl, bp, ?_⟩
            rw [S_len, em, show ((p.1.length : Nat) : Int) - ((m + 1 : Nat) : Int) = ((p.1.length - (m + 1) : Nat) : Int) by omega, cutn_to]
            refine ⟨_, rfl, _, _, rfl, rfl, by rw [S_len, S_len, List.length_take]; exact sz (m := 80) (by omega) (by decide), ?_⟩
            rw [S_cat]
            refine ⟨by show 2 ≤ sizeLine; decide, fun l hl => ?_⟩
            refine ⟨l, [p.2 ++ q.1.drop (m + 1), p.1.take (p.1.length - (m + 1)) ++ q.2], rfl, rfl, SqL.of upd_same, fun x hx => ?_, fun R H2 w2 hR eR => ?_⟩
            · rcases List.mem_cons.mp hx with rfl | hx
              · rw [List.length_append, List.length_drop]; omega
              · rw [List.mem_singleton.mp hx, List.length_append, List.length_take]; omega
            rw [ordSort_two] at eR
            generalize K60.srt (p.2 ++ q.1.drop (m + 1)) (p.1.take (p.1.length - (m + 1)) ++ q.2) = ab at eR ht
            generalize p.1 ++ q.1.drop (m + 1) = row at ht ⊢
            generalize K60.tOf p q (m + 1) = t at ht hts hsucc
            have w12 := (sm_new hl).trans w2
            have e2 := w12 _ _ e1
            have t2 := t1.same w12
            have wH := w1.trans w12
            clear w2 hR w12 e1 hl t1
            have hul : us.length = ks.length := paired_len t2
            have hkl := hk1.len
            refine ⟨_, rfl, R, _, 0, _, rfl, rfl, SqL.of eR, rfl, _, rfl, R, _, 1, _, rfl, rfl, SqL.of eR, rfl, rfl, _, rfl, ?_⟩
            by_cases hne : ab.1 = ab.2
            · refine iteN (by rw [hne]; simp) (iteN rfl ?_)
              exact ⟨⟨_, _, _, rfl⟩, wH, us, ks, e2, t2, by rw [hsucc]; exact hk1.skip fun h => absurd hne (by rw [ht] at h; exact h)⟩
            · refine iteB (by rw [Bool.not_eq_true', decide_eq_false_iff_not]; exact fun e => hne (S_inj (V.str.inj e))) ?_
              refine ⟨_, rfl, _, rfl, R, _, 0, _, rfl, rfl, SqL.of eR, rfl, _, rfl, R, _, 1, _, rfl, rfl, SqL.of eR, rfl, by show 3 ≤ sizeLine; decide, fun u hu => ?_⟩
              have su := sm_new (o := .tup [.str (S row), .str (S ab.1), .str (S ab.2)]) hu
              have eu : (upd H2 u (.tup [.str (S row), .str (S ab.1), .str (S ab.2)])) u = some (.tup [.str (S t.1), .str (S t.2.1), .str (S t.2.2)]) := by rw [upd_same, ht]
              have e3 := su _ _ e2
              have t3 := t2.same su
              have w3 := wH.trans su
              have eR3 := su _ _ eR
              refine ⟨_, rfl, tri t, ks.map tri, dp_tri eu, .lst (SqL.of e3) (dpa_of t3.dp), ?_, shaped_tris hks true, _, rfl, ?_⟩
              · exact shaped_tup (hts t List.mem_cons_self)
              rw [any_tri]
              have htn : t.2.1 ≠ t.2.2 := by rw [ht]; exact hne
              by_cases hin : t ∈ ks
              · refine iteN (by rw [decide_eq_true hin]; rfl) ?_
                exact ⟨⟨_, _, _, rfl⟩, w3, us, ks, e3, t3, by rw [hsucc]; exact hk1.skip fun _ => hin⟩
              · refine iteB (by rw [decide_eq_false hin]; rfl) ?_
                refine ⟨_, rfl, .inl ⟨rfl, _, SqL.of e3⟩, ?_⟩
                refine ⟨_, rfl, _, rfl, R, _, 0, _, rfl, rfl, SqL.of eR3, rfl, _, rfl, R, _, 1, _, rfl, rfl, SqL.of eR3, rfl, by show 3 ≤ sizeLine; decide, fun u2 hu2 => ?_⟩
                have s4 := sm_new (o := .tup [.str (S row), .str (S ab.1), .str (S ab.2)]) hu2
                refine ⟨fl, _, _, rfl, rfl, s4 _ _ e3, by rw [List.length_map, hul]; exact Nat.lt_of_le_of_lt (Nat.le_trans hkl hlen) (by decide), ?_⟩
                refine ⟨⟨_, _, _, rfl⟩, sm_put (w3.trans s4) hfl, us ++ [u2], ks ++ [t], by rw [upd_same, List.map_append]; rfl, TrAt.put (s4 _ _ e3) (pr_snoc (t3.same s4) (by rw [upd_same, ht])), by rw [hsucc]; exact hk1.put htn hin⟩
        · rintro σ H2 ⟨⟨s6, s7, s8, rfl⟩, w2, us2, ks2, e2, t2, hk2⟩
          rw [en] at hk2
          exact ⟨⟨_, _, _, _, _, rfl⟩, w2, us2, ks2, e2, t2, by rw [hJ, ← List.append_assoc]; exact hk2⟩
      · rintro σ H2 ⟨⟨s4, s5, s6, s7, s8, rfl⟩, w2, us2, ks2, e2, t2, hk2⟩
        rw [List.length_map, hql] at hk2
        exact ⟨⟨_, _, _, _, _, _, _, rfl⟩, w2, us2, ks2, e2, t2, by rw [rawI_succ hi, hpe]; exact hk2⟩
    · rintro σ H2 ⟨⟨s2, s3, s4, s5, s6, s7, s8, rfl⟩, w2, us, ks, e2, t2, hk2⟩
      rw [List.length_map, hql, rawI_all] at hk2
      exact ⟨_, rfl, k fl us ks H2 w2 e2 t2 hk2⟩
end
end Toy
set_option maxHeartbeats 2000000
namespace Toy
open PySem L2 C8 SX LX
theorem moves_len (ps : Ps) (r : List Nat) : (K60.movesL ps r).length ≤ r.length * ps.length := by
  unfold K60.movesL
  have := flat_len (c := ps.length) (l := List.range r.length) (f := fun p => (K60.movesAt ps r p).map fun n => (p, n)) fun p _ => by rw [List.length_map]; exact movesAt_len ps r p
  rw [List.length_range] at this
  exact this
theorem MvAt.pick {H : Hp} {us : List Addr} {l : List (Nat × Nat)} (h : MvAt H us l) {v : V} (hv : v ∈ us.map V.ref) : ∃ u m, v = .ref u ∧ m ∈ l ∧ H u = some (.tup [.int (m.1 : Nat), .int (m.2 : Nat)]) := by
  obtain ⟨u, hu, rfl⟩ := List.mem_map.mp hv
  obtain ⟨i, hi⟩ := List.getElem?_of_mem hu
  have hil := (List.getElem?_eq_some_iff.mp hi).1
  have hl : i < l.length := by rw [← h.len]; exact hil
  exact ⟨u, l[i], rfl, List.getElem_mem hl, paired_get h i u l[i] hi (List.getElem?_eq_getElem hl)⟩
section
variable {P : Program} {w : World} {K : PySem.W.Frag} {mg : Str → Option Value} {base : Heap}
abbrev s_any : Stmt := top 32
abbrev n_any : List Str := ["box", "pairs", "row", "some"]
theorem sc_any : FnScope n_any ["box", "pairs", "row"] (fnScope s_any) := fnScope_by (by decide +kernel)
def spAny : Sp := fun vs H Q _ => ∃ (b pl : Addr) (qs : List Addr) (sg : List Nat) (ps : Ps) (row : List Nat), vs = [.ref b, .ref pl, .str (S row)] ∧ BoxAt b H ∧ H pl = some (.lst (qs.map V.ref)) ∧ pl ≠ b ∧ PrAt H qs ps ∧ Gr sg ps ∧ Ov sg row ∧ row.length ≤ 10 ∧
  ∀ (e : List Nat) (H' : Hp), Bx b H H' → K60.Rch ps row e → K60.movesL ps e = [] → Q (.str (S e)) H'
theorem ok_any (T : BT mg) (c_pick : Cal P w K mg base 2 "_law_pick" (spPick K) []) (c_lmoves : Cal P w K mg base 1 "_law_moves" spLMoves []) (c_lafter : Cal P w K mg base 1 "_law_after" (spLAfter K) []) {f : Addr} {fd : FuncData} (F : Def K mg "_law_any_road" s_any f fd) (b : Binds K fd ["box", "pairs", "row"] []) : Cal P w K mg base 3 "_law_any_road" spAny [] := by
  refine cal0 F b .nil sc_any (fun vs H Q E h => ?_) (fun cdv A outer s H vs Q E hr h => ?_)
  · obtain ⟨b, pl, _, _, _, row, rfl, _⟩ := h; rfl
  · obtain ⟨b, pl, qs, sg, ps, row, rfl, hb, hpl, npb, hpr, g, hov, hrow, k⟩ := h
    have br : ∀ x : List Nat, x.length ≤ 10 → x.length ≤ 40 := fun x h => by omega
    have hfew := g.few
    refine ⟨_, (pss_cons (ps_set (i := 3) sc_any.nd rfl (.inl rfl) (pe_c c_lmoves hr (by first | decide | omega) (by rfl) (pa_cons (pv 1) (pa_cons (pv 2) pa_nil))))
      (pss_cons (ps_while PassesOwn.never (pt_cmpR (op_neDK K hr) (pv 3) (pe_lst pa_nil) (nomark _)) 
        (pss_cons (ps_set (i := 2) sc_any.nd rfl (.inl rfl) (pe_c c_lafter hr (by first | decide | omega) (by rfl) (pa_cons (pv 1) (pa_cons (pv 2) (pa_cons (pe_c c_pick hr (by first | decide | omega) (by rfl) (pa_cons (pv 0) (pa_cons (pv 3) pa_nil))) pa_nil)))))
        (pss_one (ps_set (i := 3) sc_any.nd rfl (.inl rfl) (pe_c c_lmoves hr (by first | decide | omega) (by rfl) (pa_cons (pv 1) (pa_cons (pv 2) pa_nil))))
        )))
      (pss_one (ps_ret (pv 2))
      ))), ?_⟩
    refine ⟨_, rfl, _, rfl, pl, qs, sg, ps, row, rfl, hpl, hpr, g, br _ hrow, fun so us H1 s1 hso0 hso hmv => ?_⟩
    have b1 : Bx b H H1 := bk_same s1 hb
    have nsb := box_ne hb hso0
    clear hso0 s1
    refine ⟨fun m σ H' => ∃ (x : List Nat) (so : Addr) (us : List Addr), m = K60.rk sg x ∧ σ = [some (.ref b), some (.ref pl), some (.str (S x)), some (.ref so)] ∧
      Bx b H H' ∧ so ≠ b ∧ H' so = some (.lst (us.map V.ref)) ∧ MvAt H' us (K60.movesL ps x) ∧ K60.Rch ps row x ∧ Ov sg x ∧ x.length ≤ 10, ?_, ?_⟩
    · exact ⟨_, row, so, us, rfl, rfl, b1, nsb, hso, hmv, .refl, hov, hrow⟩
    clear nsb hso hmv b1 H1 us so
    rintro m σ H2 ⟨x, so, us, rfl, rfl, b2, nsb, hso, hmv, hrc, hox, hlx⟩
    refine ⟨_, rfl, by show 0 ≤ sizeLine; decide, fun e he => ?_⟩
    have se := sm_new (o := .lst []) he
    have b3 := bxsm b2 se
    have hso3 := se _ _ hso
    have hmv3 := hmv.same se
    refine ⟨.list ((K60.movesL ps x).map mvD), .list [], .lst (SqL.of hso3) hmv3.dp, .lst (SqL.of upd_same) .nil, shaped_mvs _, shaped_lst (xs := []) (fun _ h => nomatch h), _, rfl, ?_⟩
    rw [eqv_mv_nil]
    generalize upd H2 e (.lst []) = H3 at b3 hso3 hmv3 ⊢
    clear hso hmv b2 he se
    by_cases hh : K60.movesL ps x = []
    · refine iteN (by rw [hh]; rfl) ?_
      exact ⟨_, rfl, k x _ b3 hrc hh⟩
    · refine iteB (by rw [decide_eq_false hh]; rfl) ?_
      refine ⟨fun σ' H' => ∃ (y : List Nat) (so : Addr) (us : List Addr), K60.rk sg y < K60.rk sg x ∧ σ' = [some (.ref b), some (.ref pl), some (.str (S y)), some (.ref so)] ∧
        Bx b H H' ∧ so ≠ b ∧ H' so = some (.lst (us.map V.ref)) ∧ MvAt H' us (K60.movesL ps y) ∧ K60.Rch ps row y ∧ Ov sg y ∧ y.length ≤ 10,
        fun σ' H' ⟨y, so, us, a0, a1, a2, a3, a4, a5, a6, a7, a8⟩ => ⟨K60.rk sg y, a0, y, so, us, rfl, a1, a2, a3, a4, a5, a6, a7, a8⟩, ?_⟩
      have hul := hmv3.len
      have hml := moves_len ps x
      have hpos : 0 < (K60.movesL ps x).length := List.length_pos_iff.mpr hh
      have hm200 : x.length * ps.length ≤ 10 * 20 := Nat.mul_le_mul hlx hfew
      refine ⟨_, rfl, _, rfl, _, rfl, _, rfl, b, .ref so, _, rfl, b3.2, (fun e => nsb (V.ref.inj e)), .inl ⟨so, rfl, .inl (SqL.of hso3)⟩, by rw [List.length_map]; omega, by rw [List.length_map]; omega, fun v H4 hv b4 => ?_⟩
      obtain ⟨u, m, rfl, hm, hu⟩ := hmv3.pick hv
      obtain ⟨h1, h2, h3⟩ := K60.mem_moves.mp hm
      have b4' : Bx b H H4 := ⟨fun a o n e => b4.1 _ _ n (b3.1 _ _ n e), b4.2⟩
      have hub : u ≠ b := fun z => by
        obtain ⟨o, eo, q1, q2, q3, rfl⟩ := b3.2
        rw [z, eo] at hu; cases hu
      obtain ⟨hny, hlt, hle⟩ := K60.stp_down g.mn g.asc g.down g.pos hox (K60.stp_of_move hm)
      refine ⟨pl, u, qs, sg, ps, x, m, rfl, b4'.1 _ _ npb hpl, hpr.bx hb b4', g, br _ hlx, SqT.of (b4.1 _ _ hub hu), Nat.le_of_lt h1, h2, fun H5 s5 => ?_⟩
      have b5 := bxsm b4' s5
      refine ⟨_, rfl, _, rfl, pl, qs, sg, ps, K60.afterL ps x m, rfl, b5.1 _ _ npb hpl, hpr.bx hb b5, g, br _ (Nat.le_trans hle hlx), fun so2 us2 H6 s6 hso0 hso2 hmv2 => ?_⟩
      exact ⟨_, so2, us2, hlt, rfl, bxsm b5 s6, box_ne b5.2 hso0, hso2, hmv2, hrc.trans (.one (K60.stp_of_move hm)), hny, Nat.le_trans hle hlx⟩
end
end Toy
set_option maxHeartbeats 4000000
namespace LX
open PySem PySem.W PySem.Spec PyProof.Rows L2 C8 SX
section
variable {prog : Program} {w : World} {A : Around} {E : Value → Shared → Prop} {s : Shared}
theorem wpAny_ite_yes {α : Type} {c : Prop} [Decidable c] {t u : Sem α} {R : α → Shared → Prop} (yes : c) (k : wpAny (model prog w) A t R E s) : wpAny (model prog w) A (if c then t else u) R E s := by
  rw [if_pos yes]; exact k
theorem wpAny_ite_no {α : Type} {c : Prop} [Decidable c] {t u : Sem α} {R : α → Shared → Prop} (no : ¬ c) (k : wpAny (model prog w) A u R E s) : wpAny (model prog w) A (if c then t else u) R E s := by
  rw [if_neg no]; exact k
theorem collect_tup {tp : Addr} {us : List Value} {R : List Value → Shared → Prop} (it : IsTup s.heap tp us.toArray) (few : us.length ≤ sizeLine)
    (k : R us { s with heap := (s.heap.push (seqObj "list" #[] 0)).update s.heap.objs.size (Obj.mapSeq (· ++ us.toArray)) }) : wpAny (model prog w) A (collect (.ref tp)) R E s := by
  obtain ⟨ob, at1, cls, ep, dat⟩ := it
  have at2 : (s.heap.push (seqObj "list" #[] 0)).get? tp = some ob := Heap.get?_push_of_some _ at1
  have new0 : (s.heap.push (seqObj "list" #[] 0)).get? s.heap.objs.size = some (seqObj "list" #[] 0) := Heap.get?_push_size _ rfl
  have nil_app : ((#[] : Array Value) ++ us.toArray).toList = us := by simp
  have fits : ((#[] : Array Value) ++ us.toArray).size ≤ sizeLine + 1 := by
    rw [← Array.length_toList, nil_app]
    exact Nat.le_succ_of_le few
  have isT : (Value.type "tuple" == Value.type "tuple") = true := by rfl
  unfold collect
  exact wpAny_bind (wpAny_runValue (codeAny_builtin entry_proto_collect' (wpAny_bind (wpAny_newList (wpAny_pure ⟨Code.quiet_builtin _ (by decide +kernel), codeAny_builtin entry_list_iadd' (by
    unfold Builtin.«list.__iadd__»
    refine wpAny_bind (wpAny_pure ?_)
    unfold Builtin.List.listExtendWith
    refine wpAny_bind (wpAny_typeOf (T := "tuple") ⟨ob, at2, cls⟩ (wpAny_ite_yes (by rw [isT, Bool.or_true]) ?_))
    refine wpAny_bind (listItems_at at2 dat (wpAny_bind (listItems_at new0 rfl ?_)))
    dsimp only
    refine wpAny_ite_no (by simp) (wpAny_bind (listUpdate_at new0 rfl ?_ (Nat.zero_le _) fits))
    refine wpAny_pure ?_
    dsimp only
    refine wpAny_bind (wpAny_load (get?_update_seq new0 _) ?_)
    dsimp only [seqObj]
    rw [nil_app]
    exact wpAny_pure k)⟩)))))
theorem sorted_of_sortT {tp : Addr} {us : List Value} {R : Value → Shared → Prop} (it : IsTup s.heap tp us.toArray) (few : us.length ≤ sizeLine)
    (sorts : ∀ E2 : Value → Shared → Prop, wpAny (model prog w) A.in1.in1 (Builtin.«list.sort» ⟨[.ref (s.heap.objs.size + 1)], []⟩) (fun e s2 => e = .done (.ret .none) ∧ R (.ref (s.heap.objs.size + 1)) s2) E2 { s with heap := copyHeap s.heap us }) :
    wpAny (model prog w) A (call (.builtin "sorted") [.ref tp]) R E s := by
  have size1 : ((s.heap.push (seqObj "list" #[] 0)).update s.heap.objs.size (Obj.mapSeq (· ++ us.toArray))).objs.size = s.heap.objs.size + 1 := (Heap.size_update ..).trans (size_push' _ _)
  refine Calls.call_function_entry kind_sorted plain_sorted entry_sorted (args_sorted1 _) (by
    unfold Builtin.«sorted»
    refine wpAny_bind (wpAny_pure (wpAny_bind (collect_tup it few (wpAny_bind (wpAny_newList ?_ few)))))
    rw [size1]
    refine wpAny_bind (wpAny_holding (wpAny_call_entry slot_list_sort ⟨_, copyHeap_at s.heap us, rfl⟩ entry_list_sort (wpAny_mono (sorts _) (fun e s2 ⟨ee, got⟩ => ?_) fun _ _ no => no) (args_list_sort _)))
    subst ee
    exact ⟨.none, rfl, wpAny_pure ⟨_, rfl, got⟩⟩)
theorem sorted_dataT {β : Type} {us : List Value} {bs : List β} {enc : β → PyData} {R : Value → β → Prop} {tp : Addr} {Q : Value → Shared → Prop} (it : IsTup s.heap tp us.toArray) (are : EachIs R us bs) (read : EachIs (fun v b => ∃ as, Reads s.heap v (enc b) as) us bs) (al : AllAlike (bs.map enc)) (so : Sortable (bs.map enc)) (few : bs.length ≤ sizeLine)
    (deep : ∀ b, b ∈ bs → A.units + 2 + (enc b).depth < cLine) (k : ∀ out, out.length = bs.length → EachIs R out (bs.mergeSort (dataLe false enc)) → Q (.ref (s.heap.objs.size + 1)) { s with heap := sortedAll s.heap us (List.toArray out) }) : wpAny (model prog w) A (call (.builtin "sorted") [.ref tp]) Q E s := by
  have few2 : us.length ≤ sizeLine := by rw [are.length]; exact few
  have read2 : EachIs (fun v b => ∃ as, Reads (sortingHeap (copyHeap s.heap us) (s.heap.objs.size + 1) us) v (enc b) as) us bs := read.mono fun v b h => let ⟨as, r⟩ := h; ⟨as, PyProof.Rows.Reads.keeps (fun _ _ => sorting_copy_old) r⟩
  have out := sortVals_data false are read2 al
  have can := SortsAt.data (prog := prog) (w := w) (A := A.in1.in1) (s := { s with heap := sortingHeap (copyHeap s.heap us) (s.heap.objs.size + 1) us }) (each_map (R := fun v d => ∃ as, Reads (sortingHeap (copyHeap s.heap us) (s.heap.objs.size + 1) us) v d as) enc read2) al so (bound_map deep)
  refine sorted_of_sortT it few2 fun _ => list_sort_vals (s := { s with heap := copyHeap s.heap us }) (copyHeap_at s.heap us) can few2 ⟨rfl, k _ ?_ out⟩
  rw [sortVals_length false rfl]
  exact are.length
end
section
variable {X : Cx}
def rSortDT (K : PySem.W.Frag) {β : Type} (enc : β → PyData) : List V → Hp → VK → Prop := fun vs H Q => ∃ (a : Addr) (xs : List V) (bs : List β), vs = [V.ref a] ∧ SqT K H a xs ∧ Paired (fun x b => Dp K H x (enc b)) xs bs ∧ AllAlike (bs.map enc) ∧ Sortable (bs.map enc) ∧ (∀ b ∈ bs, (enc b).depth ≤ 8) ∧
  ∀ (p : Addr) (ys : List V), H p = none → Paired (fun x b => Dp K H x (enc b)) ys (bs.mergeSort (dataLe false enc)) → Q (.ref p) (upd H p (.lst ys))
theorem cr_sortedDT {β : Type} (enc : β → PyData) (hu : X.A.units + 64 < cLine) : CallR X (.builtin "sorted") (rSortDT X.K enc) := by
  intro pins s σ H vs us Q I r h
  obtain ⟨a, xs, bs, rfl, hs, hd, hal, hk, hdep, q⟩ := h
  obtain ⟨its, rv, hl, hz⟩ := I.tuple hs
  rw [Vals.ref1 r]
  have e := each_of hd rv
  have er : EachIs (fun v b => ∃ as, Reads s.heap v (enc b) as) its bs := e.mono fun v b ⟨x, rx, hx⟩ => Dp.reads I _ _ _ hx rx
  have hL : bs.length ≤ sizeLine := by rw [← paired_len hd]; exact hz
  refine sorted_dataT hl e er hal hk hL (fun b hb => by have := hdep b hb; omega) fun out ho eo => ?_
  obtain ⟨ys, rvy, hdy⟩ := of_each eo
  obtain ⟨ep, he'⟩ := PyProof.Rows.sortedAll_at s.heap its out.toArray
  refine ⟨.ref _, upd H (s.heap.objs.size + 1) (.lst ys), I.laid (t' := s.toks) (fun _ _ => PyProof.Rows.sortedAll_old) (Nat.le_succ _) ⟨?_, out, ep, rvy, he'⟩, rfl, q _ _ (I.hok.fresh (Nat.le_succ _)) hdy⟩
  rw [rvy.length, ho]
  exact hL
end
end LX
set_option maxHeartbeats 4000000
namespace LX
open PySem PySem.Spec PyProof.Rows L2 C8 SX
structure ValX (P : Program) (w : World) (K : PySem.W.Frag) (mg : Str → Option Value) (base : Heap) (k : Nat) (x : Str) (C : Addr) (kw : Str) (sp : Sp) : Prop where
  ex : ∃ (f : Addr) (fd : FuncData) (ps : List Str), XC K C ∧ PySem.W.findIn K (.ref C) "__init__" = some (some (.ref f)) ∧ PySem.W.typeIn K (.ref f) = some (.type "function") ∧ FnOk P w K mg base C8.CX0 k f fd ps sp ∧ mg x = some (.ref C) ∧ Binds K fd ps [] ∧
    KBn K fd ps 1 [kw] (fun us ws => us ++ ws) (fun vs zs => vs ++ zs)
def tMkV (C : Addr) (sp : Sp) (t : TA) : TE := fun σ H Q => t σ H fun vs H1 => vs.length = 1 ∧ ∀ a, H1 a = none → sp (.ref a :: vs) (upd H1 a (exo a C none)) (fun v H2 => v = .non ∧ Q (.ref a) H2) (fun _ _ _ => False)
section
variable {X : Cx} {k j : Nat} {C : Addr} {sp : Sp} {x kw : Str} {p pos kpos : Pos} {e : Expr} {es : List Expr} {ta : TE} {t tk : TA} {kws : List Keyword}
theorem run_mkV {pins : List (Addr × Obj)} {σ : L2.St} {H1 : Hp} {Q : VK} {s1 : Shared} {f : Addr} {fd : FuncData} {ps : List Str} {us : List Value} {kvs : List (Str × Value)} {vs : List V} {all : List Value} (T : XC X.K C) (iC : PySem.W.findIn X.K (.ref C) "__init__" = some (some (.ref f))) (tI : PySem.W.typeIn X.K (.ref f) = some (.type "function"))
    (F1 : FnOk X.prog X.w X.K X.mg X.base C8.CX0 k f fd ps sp) (hr : Room (k + 1) X.A) (I1 : Inv X pins σ H1 s1) (hus : us.length ≤ sizeLine) (hb : ∀ (s : Shared) (e : Value), X.K.In s.heap → BindsTo s fd ⟨e :: us, kvs⟩ (ps.zip (e :: all))) (r : Vals vs all)
    (q : ∀ a, H1 a = none → sp (.ref a :: vs) (upd H1 a (exo a C none)) (fun v H2 => v = .non ∧ Q (.ref a) H2) (fun _ _ _ => False)) : wpAny (model X.prog X.w) X.A (call (.ref C) us kvs) (EP X pins σ Q) X.xe s1 := by
  obtain ⟨nm, qn, N, bs, bm, sn, sub, ab, col, dd, k0, k1, k2, k3, k5, B, newId, initId, bmF, F, hC, hB, hA, hN, hp0, hob⟩ := T.data
  obtain ⟨hp, g, dr, tk, os⟩ := s1
  have hsz : hp.objs.size ≤ hp.objs.size + 1 := Nat.le_succ _
  have hn : H1 (hp.objs.size + 1) = none := I1.hok.fresh hsz
  have hq := q (hp.objs.size + 1) hn
  have kk : ∀ b o, hp.get? b = some o → ((hp.push (PySem.W.kdv_tup us)).push (PySem.HandSPX.excO C hp.objs.size)).get? b = some o := fun b o e => Heap.get?_push_of_some _ (Heap.get?_push_of_some _ e)
  have hget : ((hp.push (PySem.W.kdv_tup us)).push (PySem.HandSPX.excO C hp.objs.size)).get? (hp.objs.size + 1) = some (PySem.HandSPX.excO C hp.objs.size) := by heap_get
  have I2 : Inv X pins σ (upd H1 (hp.objs.size + 1) (exo (hp.objs.size + 1) C none)) ⟨(hp.push (PySem.W.kdv_tup us)).push (PySem.HandSPX.excO C hp.objs.size), g, dr, tk, os⟩ :=
    I1.laid (t' := tk) (a := hp.objs.size + 1) (o := exo (hp.objs.size + 1) C none) (h' := (hp.push (PySem.W.kdv_tup us)).push (PySem.HandSPX.excO C hp.objs.size)) kk hsz (exo_ok hget)
  have r2 : Vals (V.ref (hp.objs.size + 1) :: vs) (Value.ref (hp.objs.size + 1) :: all) := .cons rfl r
  refine wpAny_call (EV.call_kw (kw := kvs) F hB hA hN (I1.kIn _ _ hC) (PySem.W.looks_findIn I1.kIn iC) (fun self => PySem.W.bind_fn I1.kIn self tI) hus
    (codeAny_mono (F1.run _ X.stack _ _ ⟨Value.ref (hp.objs.size + 1) :: us, kvs⟩ (Value.ref (hp.objs.size + 1) :: all) _ _ (fun _ _ _ => False) (hr.make C us kvs) (I2.env0.make C us kvs) (hb _ _ I2.kIn) r2 hq) fun r s' hq' => ?_))
  cases r with
  | error er => exact hq'.elim
  | ok fl =>
    cases fl with
    | ret u =>
      obtain ⟨v, H', I3, rv, ev, q3⟩ := I2.after hq'
      subst ev
      exact ⟨rv, ⟨V.ref (hp.objs.size + 1), H', I3, rfl, q3⟩⟩
    | next => exact False.elim hq'
    | brk => exact False.elim hq'
    | cont => exact False.elim hq'
theorem pe_mkV (c : ValX X.prog X.w X.K X.mg X.base k x C kw sp) (hr : Room j X.A) (hk : k + 1 ≤ j) (hg : Gl X x) (ha : PA X (e :: es) t) (hdb : (x == ("__debug__" : Str)) = false := by decide)
    (he : starEach (e :: es) X.env = (false, eval e X.env) :: starEach es X.env := by rfl) (hpl : (backTo pos (starEach es X.env)).any (·.1) = false := by rfl) : PE X (.Call (.Name x p) (e :: es) [] pos) (tMkV C sp t) := by
  obtain ⟨f, fd, ps, T, iC, tI, F1, hm, hb, kb⟩ := c.ex
  refine ⟨fun pins s σ H Q I h => ?_⟩
  refine wpAny_Call_Name_kw (ld_glob I hg hm ?_ hdb)
  refine PySem.W.callWith_K (h₀ := X.base) I.ok.mod.kin T.kC (thn (ha.run pos pins s σ H _ I h) fun us s1 ⟨vs, H1, I1, r1, hz, q1⟩ => ⟨I1.kIn, ?_⟩) he hpl
  have lu : us.length = 1 := by rw [← Paired.length r1]; exact hz
  show wpAny _ _ (call (.ref C) us []) _ _ _
  refine run_mkV (kvs := []) T iC tI F1 (hr.mono hk) I1 (by rw [lu]; decide) (fun s e hK => ?_) r1 q1
  have hl : (e :: us).length = ps.length := by
    have := F1.len _ _ _ _ (q1 _ (I1.hok.fresh (Nat.le_refl _)))
    rw [List.length_cons, Paired.length r1] at this
    rw [List.length_cons]; exact this
  have b2 := hb s (e :: us) hK (by rw [List.append_nil]; exact hl)
  rw [List.append_nil] at b2
  exact b2
theorem pe_mkVk (c : ValX X.prog X.w X.K X.mg X.base k x C kw sp) (hr : Room j X.A) (hk : k + 1 ≤ j) (hg : Gl X x) (hkw : PK X kws tk) (hall : (backToKw pos (keywordEach kws X.env)).all (·.1.isSome) = true := by rfl) (hks : (backToKw pos (keywordEach kws X.env)).filterMap (·.1) = [kw] := by rfl)
    (hdb : (x == ("__debug__" : Str)) = false := by decide)
    (hpl : ((backTo pos (starEach [] X.env)).any (·.1) || (backToKw pos (keywordEach kws X.env)).any (·.1.isNone)) = false := by rfl) : PE X (.Call (.Name x p) [] kws pos) (tMkV C sp tk) := by
  obtain ⟨f, fd, ps, T, iC, tI, F1, hm, hb, kb⟩ := c.ex
  refine ⟨fun pins s σ H Q I h => ?_⟩
  refine wpAny_Call_Name_kw (ld_glob I hg hm ?_ hdb)
  refine PySem.W.callWith_KW0 (h₀ := X.base) I.ok.mod.kin T.kC hall (thn (hkw.run pos pins s σ H _ I h) fun ws s2 ⟨zs, H2, I2, rz, hz, q2⟩ => ⟨I2.kIn, ?_⟩) hpl
  rw [hks]
  have lw : ws.length = 1 := by rw [← Paired.length rz]; exact hz
  exact run_mkV (us := []) (kvs := [kw].zip ws) (all := ws) T iC tI F1 (hr.mono hk) I2 (Nat.zero_le _) (fun s e hK => kb.to s [e] ws hK rfl lw) rz q2
end
def ExV (H : Hp) (a C : Addr) (f : Str) (v : V) : Prop := ∃ dx, H a = some (exo a C (some dx)) ∧ H dx = some (exd dx [(f, v)])
theorem ExV.same {H H' : Hp} {a C : Addr} {f : Str} {v : V} (h : ExV H a C f v) (s : Same H H') : ExV H' a C f v := let ⟨dx, h1, h2⟩ := h; ⟨dx, s _ _ h1, s _ _ h2⟩
def ExD (H : Hp) (a D : Addr) : Prop := (∃ f v, ExV H a D f v) ∨ H a = some (ExO (.ref D) a)
theorem ExD.same {H H' : Hp} {a C : Addr} (h : ExD H a C) (s : Same H H') : ExD H' a C := h.elim (fun ⟨f, v, h⟩ => .inl ⟨f, v, h.same s⟩) fun h => .inr (s _ _ h)
theorem exd_inst {X : Cx} {pins : List (Addr × Obj)} {σ : L2.St} {H : Hp} {s : Shared} {a D : Addr} (I : Inv X pins σ H s) (h : ExD H a D) : ∃ (ox : Obj) (od : Option Obj), PySem.W.InstAt s.heap a ox D od := by
  rcases h with ⟨f, v, dx, h1, h2⟩ | h
  · obtain ⟨t1, ho⟩ := exo_at I.hok h1
    obtain ⟨mA, hns, rel⟩ := exd_at I.hok h2
    obtain ⟨o, _, _, e1, _⟩ := hns
    exact ⟨_, some o, ho, rfl, rfl, e1⟩
  · have x : ObjOk X.prog X.w H s.heap a (.ext fun h => ∃ (oe : Obj) (vs : Array Value), h.get? a = some oe ∧ Zc (.ref D) none oe ∧ oe.data = .fields vs ∧ vs[1]? = some .none ∧ vs[2]? = some .none ∧ 4 < vs.size) := I.hok a _ h
    obtain ⟨oe, vs, e, z, d, _⟩ := x.1
    refine ⟨oe, none, e, z.1, by unfold PySem.W.notCls; rw [d] <;> rfl, ?_⟩
    rw [z.2]; exact True.intro
def rIsV (K : PySem.W.Frag) : List V → Hp → VK → Prop := fun xs H Q => ∃ (D a : Addr) (c : V) (cv : Value) (b : Bool), ExcC K D ∧ xs = [.ref a, c] ∧ (∀ u, RelV c u → u = cv) ∧ PySem.W.kitOne K (.ref D) cv = some b ∧ ExD H a D ∧ Q (.bl b) H
theorem call_isV {X : Cx} : CallR X (.builtin "isinstance") (rIsV X.K) := by
  intro pins s σ H xs us Q I r h
  obtain ⟨D, a, c, cv, b, C, rfl, hcv, e, hd, q⟩ := h
  cases r with
  | cons rx rr =>
    cases rr with
    | cons rt rr =>
      cases rr
      cases rx
      have ec := hcv _ rt
      subst ec
      obtain ⟨ox, od, J⟩ := exd_inst I hd
      exact PySem.W.kia_one (EV.kitx_excD (od := od) C.hg C.hk C.hs C.hd C.ha C.hn C.ht C.hm) I.kIn J e (fun z => nomatch z) fun tk => ⟨.bl b, H, I.kept (t' := tk) fun _ _ z => z, rfl, q⟩
def tXfV (K : PySem.W.Frag) (f : Str) (te : TE) : TE := fun σ H Q => te σ H fun x H1 => ∃ (a C : Addr) (v : V), x = .ref a ∧ XfC K C ∧ PySem.W.findIn K (.ref C) f = some none ∧ ExV H1 a C f v ∧ Q v H1
theorem pe_xfV {X : Cx} {e : Expr} {te : TE} {pos : Pos} {n : Str} (K : PySem.W.Frag) (he : PE X e te) (hK : X.K = K := by rfl) (hb : attributeBase e n X.env (eval e X.env) = eval e X.env := by rfl) : PE X (.Attribute e n pos) (tXfV K n te) := by
  subst hK
  refine ⟨fun pins s σ H Q I h => ?_⟩
  refine attr_of hb (thn (he.run pins s σ H _ I h) fun u s1 hh => ?_)
  obtain ⟨x, H1, I1, rx, a, C, v, ex, T, hno, ⟨dx, h1, h2⟩, q⟩ := hh
  subst ex
  obtain rfl : u = Value.ref a := rx
  obtain ⟨t1, ho⟩ := exo_at I1.hok h1
  obtain ⟨mA, hns, hr⟩ := exd_at I1.hok h2
  obtain ⟨od, hod, hl⟩ := lookIn_ns hns
  obtain ⟨u, hu, ru⟩ := RelO.some_of (v := v) (o := mA n) (by have := hr n; rwa [show ([(n, v)] : List (Str × V)).lookup n = some v by simp] at this)
  have J : PySem.W.InstAt s1.heap a _ C (some od) := ⟨ho, rfl, rfl, hod⟩
  exact HandSPX.exc_get I1.kIn J T.ga T.gg T.exC (PySem.W.findObj_own T.hdC hno rfl (by rw [hl, hu])) (handed_of ru) ⟨v, H1, I1.tok _, ru, q⟩
theorem pe_exc0 {X : Cx} {C : Addr} {bmB : List Value} {B newId initId : String} {x : Str} {p pos : Pos} (F : ExcBaseFacts B newId initId bmB) (q : PySem.W.excIn X.K C bmB newId = true) (gC : X.mg x = some (.ref C)) (kC : PySem.W.keepIn X.K (.ref C) = true) (hg : Gl X x)
    (hdb : (x == ("__debug__" : Str)) = false := by decide) : PE X (.Call (.Name x p) [] [] pos) (fun σ H Q => ∀ a, H a = none → Q (.ref a) (upd H a (ExO (.ref C) a))) := by
  refine ⟨fun pins s σ H Q I h => ?_⟩
  refine wpAny_Call_Name_kw (ld_glob I hg gC ?_ hdb)
  refine PySem.W.callWith_K0 I.kIn kC ?_
  show wpAny _ _ (call (.ref C) []) _ _ _
  obtain ⟨bm, N, nm, qn, bs, hdct, sn, sub, ab, col, dd, k0, k1, k2, k3, k5, mN, hC, hN, hni, T⟩ := exc_obj I.kIn q
  refine wpAny_call_exc_subT F T hC hN hni (fun h' a hm => ?_) (by show 0 ≤ sizeLine; exact Nat.zero_le _)
  have hn : H a = none := I.hok.gone hm.new
  obtain ⟨t, ht, _, _⟩ := hm.there
  exact ⟨.ref a, upd H a (ExO (.ref C) a), I.laidN hm.keeps hm.new hn (exO_ok ht ⟨rfl, rfl⟩ rfl rfl rfl (show 4 < 6 by decide)), rfl, h a hn⟩
def rpr : PyData → Str
  | .none => "None"
  | .bool b => if b then "True" else "False"
  | .int i => toString i
  | .str x => reprText x
  | d => d.shown
def rprB : PyData → Bool
  | .int i => decide (i.natAbs.log2 < 1920)
  | .str x => decide ((reprText x).length ≤ sizeLine)
  | _ => true
theorem call_reprV {X : Cx} {j : Nat} (gd : X.A.guards = some []) (room : Room j X.A) (K : PySem.W.Frag) (hK : X.K = K := by rfl) : CallR X (.builtin "repr") (fun xs H Q => ∃ (v : V) (d : PyData) (k n : Nat), xs = [v] ∧ Dp K H v d ∧ Fit k n d ∧ k ≤ 60 ∧ n ≤ 1000000 ∧ rprB d = true ∧ Q (.str (rpr d)) H) := by
  subst hK
  intro pins s σ H xs us Q I rel want
  obtain ⟨v, d, k, n, rfl, hd, f, hk, hn, hb, q⟩ := want
  cases hd with
  | non =>
    obtain ⟨u, rfl, ru⟩ := vals1 rel
    cases ru
    exact PySem.P.repr_of_none ⟨.str "None", H, I.tok _, ⟨_, rfl⟩, q⟩
  | bl b =>
    obtain ⟨u, rfl, ru⟩ := vals1 rel
    cases ru
    exact PySem.P.repr_of_bool ⟨.str (if b then "True" else "False"), H, I.tok _, ⟨_, rfl⟩, q⟩
  | int i =>
    obtain ⟨u, rfl, t, rfl⟩ := vals1 rel
    exact PySem.P.repr_of_int (of_decide_eq_true hb) ⟨.str (toString i), H, I.tok _, ⟨_, rfl⟩, q⟩
  | str x =>
    obtain ⟨u, rfl, t, rfl⟩ := vals1 rel
    exact PySem.P.repr_of_str ⟨.str (reprText x), H, I.tok _, ⟨_, rfl⟩, q⟩ (of_decide_eq_true hb)
  | lst h1 h2 => exact call_reprG gd room pins s σ H _ us Q I rel ⟨_, _, rfl, .lst h1 h2, f.sho, PyData.hasDict_of_canLay _ f.lay, Nat.le_trans f.dep hk, f.size hn, q⟩
  | tup h1 h2 => exact call_reprG gd room pins s σ H _ us Q I rel ⟨_, _, rfl, .tup h1 h2, f.sho, PyData.hasDict_of_canLay _ f.lay, Nat.le_trans f.dep hk, f.size hn, q⟩
end LX
set_option maxHeartbeats 8000000
namespace Toy
open PySem L2 C8 SX LX
def KeepT (H H' : Hp) : Prop := ∀ p o, (∀ xs, o ≠ HO.lst xs) → H p = some o → H' p = some o
theorem KeepT.lst {H : Hp} {g : Addr} {acc : List V} (o : HO) (hg : H g = some (.lst acc)) : KeepT H (upd H g o) := fun p o' hn e => by
  rw [upd_ne (fun z => hn acc (by rw [z, hg] at e; exact (Option.some.inj e).symm))]; exact e
theorem KeepT.bx {b : Addr} {H H' : Hp} (hb : BoxAt b H) (s : Bx b H H') : KeepT H H' := fun p o hn e => s.1 _ _ (fun z => by
  obtain ⟨o', eo, x, y, w, rfl⟩ := hb
  rw [z, eo] at e
  exact hn _ (Option.some.inj e).symm) e
theorem KeepT.same {H H' : Hp} (s : Same H H') : KeepT H H' := fun p o _ e => s p o e
section
variable {K : PySem.W.Frag} {H H' : Hp}
theorem KeepT.seqT (k : KeepT H H') {p : Addr} {xs : List V} (h : SqT K H p xs) : SqT K H' p xs := by
  rcases h with (h | ⟨o', h⟩) | h
  · exact .inl (.inl (k _ _ (fun _ e => by cases e) h))
  · exact .inl (.inr ⟨o', k _ _ (fun _ e => by cases e) h⟩)
  · exact .inr h
theorem KeepT.pr (k : KeepT H H') : ∀ {vs : List V} {ps : Ps}, DpAll K H vs (ps.map prD) → DpAll K H' vs (ps.map prD)
  | _, [], h => by cases h; exact .nil
  | _, p :: ps, h => by
    cases h with
    | cons h1 h2 =>
      refine .cons ?_ (KeepT.pr k h2)
      cases h1 with
      | tup hs ha =>
        refine .tup (k.seqT hs) ?_
        cases ha with
        | cons g1 ha => cases ha with
          | cons g2 ha => cases ha with
            | nil => cases g1; cases g2; exact .cons (.str _) (.cons (.str _) .nil)
theorem KeepT.rul (k : KeepT H H') {C a : Addr} {sg : List Nat} {ps : Ps} (h : Rul K C H a sg ps) : Rul K C H' a sg ps := by
  obtain ⟨dx, r, h1, h2⟩ := h
  refine ⟨dx, r, k _ _ (fun _ e => by cases e) h1, ?_⟩
  cases h2 with
  | tup hs ha => exact .tup (k.seqT hs) (k.pr ha)
end
theorem KeepT.tri {K : PySem.W.Frag} {H H' : Hp} (k : KeepT H H') {v : V} {t : K60.Tri} (h : Dp K H v (tri t)) : Dp K H' v (tri t) := by
  obtain ⟨q, rfl, hq⟩ := tri_dp h
  exact .tup (k.seqT hq) (.cons (.str _) (.cons (.str _) (.cons (.str _) .nil)))
theorem mv_dp {K : PySem.W.Frag} {H : Hp} {x : V} {m : Nat × Nat} (h : Dp K H x (mvD m)) : ∃ q, x = .ref q ∧ SqT K H q [.int (m.1 : Nat), .int (m.2 : Nat)] := by
  unfold mvD at h
  cases h with
  | tup q r =>
    cases r with
    | cons a r => cases r with
      | cons b r =>
        cases r; cases a; cases b
        exact ⟨_, rfl, q⟩
theorem Drawn.noIn {sg : List Nat} {ps : Ps} {n : Nat} (h : Drawn sg ps n) : K60.NoIn ps := fun p hp q hq u w e => by
  obtain ⟨i, hi⟩ := List.getElem?_of_mem hp
  obtain ⟨j, hj⟩ := List.getElem?_of_mem hq
  have hil := (List.getElem?_eq_some_iff.mp hi).1
  have hjl := (List.getElem?_eq_some_iff.mp hj).1
  by_cases hij : i = j
  · rw [hij, hj] at hi
    exact (Option.some.inj hi).symm
  · exfalso
    have h1 := noSub_iff.mp h.ns j i (by simpa using hjl) (by simpa using hil) hij
    have e1 : (ps.map (·.1)).getD i [] = p.1 := by rw [List.getD_eq_getElem?_getD, List.getElem?_map, hi]; rfl
    have e2 : (ps.map (·.1)).getD j [] = q.1 := by rw [List.getD_eq_getElem?_getD, List.getElem?_map, hj]; rfl
    rw [e1, e2] at h1
    have : Sub q.1 p.1 = true := sub_iff.mpr ⟨u.length, by rw [e]; simp only [List.length_append]; omega, by rw [e, List.append_assoc, List.drop_left, List.take_left]⟩
    rw [this] at h1; cases h1
theorem all_one {sg : List Nat} {ps : Ps} {n : Nat} (g : Gr sg ps) (hsh : ∀ p ∈ ps, p.1.length ≤ 4) (hd : Drawn sg ps n) {ts : List K60.Tri} (ht : Told ps ts) (h0 : opens ps ts = []) {row e1 e2 : List Nat} {ms : List (Nat × Nat)} (ho : Ov sg row) (r1 : K60.Rch ps row e1) (n1 : K60.movesL ps e1 = []) (r2 : K60.Road ps row ms e2) : e1 = e2 := by
  refine K60.nf_uniq g.mn g.asc g.down g.pos hd.noIn (fun a b rw hov => ?_) _ row rfl ho e1 e2 r1 (K60.road_rch r2) n1 r2.done
  obtain ⟨t, ht1, ht2, ht3⟩ := K60.ovl_raw hov
  have hj : K60.Joined ps t.2.1 t.2.2 := by
    by_cases he : t.2.1 = t.2.2
    · rw [he]; exact ⟨_, .refl, .refl⟩
    · have hm := (ht.mem t).mpr ⟨ht1, he⟩
      have : nf ps t.2.1 = nf ps t.2.2 := by
        unfold opens at h0
        have := List.filter_eq_nil_iff.mp h0 t hm
        exact Decidable.byContradiction fun h => this (decide_eq_true h)
      obtain ⟨_, ⟨o1, _⟩, o2, _⟩ := raw_ok g hsh ht1
      obtain ⟨m1, z1, q1⟩ := K60.nf_ex g.mn g.asc g.down g.pos _ t.2.1 rfl o1
      obtain ⟨m2, z2, q2⟩ := K60.nf_ex g.mn g.asc g.down g.pos _ t.2.2 rfl o2
      rw [nf_of q1, nf_of q2] at this
      subst this
      exact ⟨z1, K60.road_rch q1, K60.road_rch q2⟩
  rcases ht3 with e | e
  · rw [e] at hj; exact hj
  · rw [e] at hj; exact hj.symm
theorem later_mem {sg : List Nat} {ps : Ps} (g : Gr sg ps) {t : K60.Tri} (h : t ∈ K60.rawOv ps) : t.2.1 ∈ (K60.movesL ps t.1).map (K60.afterL ps t.1) ∧ t.2.2 ∈ (K60.movesL ps t.1).map (K60.afterL ps t.1) := by
  obtain ⟨a, b, hov, ht⟩ := K60.raw_ovl h
  obtain ⟨m1, h1, e1⟩ := K60.move_of_stp g.pos hov.stp1
  obtain ⟨m2, h2, e2⟩ := K60.move_of_stp g.pos hov.stp2
  have ha : a ∈ (K60.movesL ps t.1).map (K60.afterL ps t.1) := List.mem_map.mpr ⟨m1, h1, e1⟩
  have hb : b ∈ (K60.movesL ps t.1).map (K60.afterL ps t.1) := List.mem_map.mpr ⟨m2, h2, e2⟩
  rcases ht with ht | ht
  · rw [ht]; exact ⟨ha, hb⟩
  · rw [ht]; exact ⟨hb, ha⟩
theorem Told.due {ps : Ps} {ts ks : List K60.Tri} (h : Told ps ts) (h2 : DsOk ks (K60.rawOv ps)) : ts.mergeSort leT = ks.mergeSort leT ∧ ts.length = ks.length := by
  have hp : ts.Perm ks := perm_of_mem h.nd h2.nd fun x => (h.mem x).trans (h2.mem x).symm
  exact ⟨sort_uniq leT_anti (((List.mergeSort_perm ts leT).trans hp).trans (List.mergeSort_perm ks leT).symm) (sortT_pw _) (sortT_pw _), hp.length_eq⟩
structure Ls (K : PySem.W.Frag) (C b pl : Addr) (qs : List Addr) (sg : List Nat) (ps : Ps) (rl : Addr) (H : Hp) : Prop where
  bx : BoxAt b H
  npb : pl ≠ b
  pl : H pl = some (.lst (qs.map V.ref))
  pr : PrAt H qs ps
  ru : Rul K C H rl sg ps
section
variable {K : PySem.W.Frag} {C b pl rl : Addr} {qs : List Addr} {sg : List Nat} {ps : Ps} {H H' : Hp}
theorem Ls.same (s : Same H H') (h : Ls K C b pl qs sg ps rl H) : Ls K C b pl qs sg ps rl H' := ⟨(bk_same s h.bx).2, h.npb, s _ _ h.pl, h.pr.same s, h.ru.same s⟩
theorem Ls.box (s : Bx b H H') (h : Ls K C b pl qs sg ps rl H) : Ls K C b pl qs sg ps rl H' := ⟨s.2, h.npb, s.1 _ _ h.npb h.pl, h.pr.bx h.bx s, (KeepT.bx h.bx s).rul h.ru⟩
end
def TT (K : PySem.W.Frag) (H : Hp) (p : Addr) (ts : List K60.Tri) : Prop := ∃ xs, H p = some (.tup xs) ∧ Paired (fun x t => Dp K H x (tri t)) xs ts
theorem TT.keep {K : PySem.W.Frag} {H H' : Hp} {p : Addr} {ts : List K60.Tri} (k : KeepT H H') (h : TT K H p ts) : TT K H' p ts := let ⟨xs, e, d⟩ := h; ⟨xs, k _ _ (fun _ e => by cases e) e, pr_imp (fun _ _ h => k.tri h) d⟩
theorem TT.dp {K : PySem.W.Frag} {H : Hp} {p : Addr} {ts : List K60.Tri} (h : TT K H p ts) : Dp K H (.ref p) (.tuple (ts.map tri)) := let ⟨_, e, d⟩ := h; .tup (SqT.of e) (dpa_of d)
section
variable {P : Program} {w : World} {K : PySem.W.Frag} {mg : Str → Option Value} {base : Heap}
abbrev s_law : Stmt := top 33
abbrev n_law : List Str := ["script", "k", "box", "signs", "pairs", "rules", "due", "told", "left", "turn", "row", "ends", "one", "other", "later", "some", "move"]
theorem sc_law : FnScope n_law ["script"] (fnScope s_law) := fnScope_by (by decide +kernel)
def spLaw (K : PySem.W.Frag) : Sp := fun vs H Q _ => ∃ (a : Addr) (ns : List Int), vs = [.ref a] ∧ SqL K H a (ns.map V.int) ∧ ns.length ≤ 63 ∧ ∀ H', Q (.bl true) H'
def one1 (vs zs : List V) : List V := vs ++ zs
theorem ok_law {C CI : Addr} (T : BT mg) (CH : CC K C)
  (c_box : Cal P w K mg base 1 "_law_box" (spBox K) []) (c_take : Cal P w K mg base 1 "_law_take" spTake []) (c_signs : Cal P w K mg base 3 "_law_signs" spSigns []) (c_pairs : Cal P w K mg base 4 "_law_pairs" spLPairs []) (c_row : Cal P w K mg base 3 "_law_row" spRow [])
  (c_lroad : Cal P w K mg base 2 "_law_road" spLRoad []) (c_Rules : MakX P w K mg base 4 "Rules" C (spInitR K C CI)) (c_reduced : Met P w K mg base 3 C "reduced" (spReduced K C) []) (c_moves : Met P w K mg base 1 C "moves" (spMoves K C) []) (c_after : Met P w K mg base 1 C "after" (spAfter K C) [])
  (c_ov : Cal P w K mg base 4 "overlaps" (spOv K C) []) (ck_ov : CalK P w K mg base 4 "overlaps" ["rules"] revV (spOv K C)) (ck_open : CalK P w K mg base 5 "open_overlaps" ["rules"] revV (spOpen K C)) (ck_compl : CalK P w K mg base 6 "is_complete" ["rules"] revV (spCompl K C))
  (c_lov : Cal P w K mg base 4 "_law_overlaps" (spLOv K) []) (c_any : Cal P w K mg base 3 "_law_any_road" spAny [])
  {f : Addr} {fd : FuncData} (F : Def K mg "law" s_law f fd) : FnG P w K mg base 8 f fd ["script"] (spLaw K) := by
  refine fnG0 F.fn sc_law (fun vs H Q E h => ?_) (fun cdv A outer s H vs Q E gd hr h => ?_)
  · obtain ⟨a, ns, rfl, _⟩ := h; rfl
  · obtain ⟨a, ns, rfl, ha, hl, kk⟩ := h
    refine ⟨_, (pss_cons (ps_for PassesOwn.never rfl (pi_range1 (by rfl) T.m_range (pa_cons (pe_callB (call_max2 rfl) (by rfl) T.m_max PyProof.Rows.boot_max (pa_cons pe_int (pa_cons (pe_callB (call_min2 rfl) (by rfl) T.m_min PyProof.Rows.boot_min (pa_cons pe_int (pa_cons (pe_callB (lenK K) (by rfl) T.m_len PySem.boot_len (pa_cons (pv 0) pa_nil)) pa_nil))) pa_nil))) pa_nil)) (pg_name (i := 1) sc_law.nd rfl (.inl rfl)) 
        (pss_cons (ps_set (i := 2) sc_law.nd rfl (.inl rfl) (pe_c c_box hr (by first | decide | omega) (by rfl) (pa_cons (pv 0) (pa_cons (pv 1) pa_nil))))
        (pss_cons (ps_set (i := 3) sc_law.nd rfl (.inl rfl) (pe_c c_signs hr (by first | decide | omega) (by rfl) (pa_cons (pv 2) pa_nil)))
        (pss_cons (ps_set (i := 4) sc_law.nd rfl (.inr rfl) (pe_c c_pairs hr (by first | decide | omega) (by rfl) (pa_cons (pv 2) (pa_cons (pv 3) (pa_cons (pe_op op_add pe_int (pe_c c_take hr (by first | decide | omega) (by rfl) (pa_cons (pv 2) (pa_cons pe_int pa_nil)))) pa_nil)))))
        (pss_cons (ps_asg (pe_tup (pa_cons (pe_mkX c_Rules takes_none5 hr (by decide) (by rfl) (pa_cons (pv 3) (pa_cons (pv 4) pa_nil))) (pa_cons (pe_c c_lov hr (by first | decide | omega) (by rfl) (pa_cons (pv 4) pa_nil)) pa_nil))) (tupK K 2 (pgs_cons (pg_name (i := 5) sc_law.nd rfl (.inr rfl)) (pgs_cons (pg_name (i := 6) sc_law.nd rfl (.inl rfl)) pgs_nil))))
        (C8.pss_cut (ps_par (i := 7) (j := 8) rfl sc_law.nd rfl rfl (by decide) rfl rfl (pa_cons (pe_c c_ov hr (by first | decide | omega) (by rfl) (pa_cons (pv 5) pa_nil)) (pa_cons (pe_cK ck_open hr (by first | decide | omega) (by rfl) (pk_cons (pv 5) pk_nil)) pa_nil)) rfl)
        (C8.pss_cut (ps_if (PW.pt (pw_or (pt_cmpR (op_neDK K hr) (pe_callB (cr_sortedDT tri hr.units) (by rfl) T.m_sorted PyProof.Rows.boot_sorted (pa_cons (pv 7) pa_nil)) (pe_callB (cr_sortedD tri hr.units) (by rfl) T.m_sorted PyProof.Rows.boot_sorted (pa_cons (pv 6) pa_nil)) (nomark _)) (pw_or (pt_cmpR op_ne (pe_callB (lenK K) (by rfl) T.m_len PySem.boot_len (pa_cons (pv 7) pa_nil)) (pe_callB (lenK K) (by rfl) T.m_len PySem.boot_len (pa_cons (pv 6) pa_nil)) (nomark _)) (pw_or1 (pt_cmpR (op_neDK K hr) (pe_cK ck_ov hr (by first | decide | omega) (by rfl) (pk_cons (pv 5) pk_nil)) (pv 7) (nomark _)))))) 
          (pss_one (ps_ret pe_bl)
          )
         pss_nil)
        (C8.pss_cut (ps_if (pt_cmpR (op_neDK K hr) (pe_callTy (listK K) (by rfl) T.m_list PyProof.Rows.boot_list (pa_cons (pv 7) pa_nil)) (pe_callB (cr_sortedDT tri hr.units) (by rfl) T.m_sorted PyProof.Rows.boot_sorted (pa_cons (pv 7) pa_nil)) (nomark _)) 
          (pss_one (ps_ret pe_bl)
          )
         pss_nil)
        (C8.pss_cut (ps_if (pt_cmpR (op_neDK K hr) (pv 8) (pe_callTy (tupleK K) (by rfl) T.m_tuple PyProof.Rows.boot_tuple (pa_cons (pe_lc (own := [("some", 15)]) rfl sc_law.nd (pi_tup (pv 7)) (blkOk_by (N := n_law) (sc := fnScope s_law) (by decide +kernel)) (fun _ _ _ _ _ => (pg_name (i := 15) sc_law.nd rfl (.inl rfl))) (fun _ _ _ _ _ => pts_one (pt_cmpR op_ne (pe_ix (ixt K) (pe_c c_lroad hr (by first | decide | omega) (by rfl) (pa_cons (pv 4) (pa_cons (pe_ix (ixt K) (pv 15) pe_int (fun _ _ => rfl)) pa_nil))) pe_int (fun _ _ => rfl)) (pe_ix (ixt K) (pe_c c_lroad hr (by first | decide | omega) (by rfl) (pa_cons (pv 4) (pa_cons (pe_ix (ixt K) (pv 15) pe_int (fun _ _ => rfl)) pa_nil))) pe_int (fun _ _ => rfl)) (nomark _))) (fun _ _ _ _ _ => (pv 15))) pa_nil)) (nomark _)) 
          (pss_one (ps_ret pe_bl)
          )
         pss_nil)
        (C8.pss_cut (ps_if (pt_cmpR op_ne (pe_callB (call_reprV gd hr K) (by rfl) T.m_repr PyProof.Rows.boot_repr (pa_cons (pe_cK ck_compl hr (by first | decide | omega) (by rfl) (pk_cons (pv 5) pk_nil)) pa_nil)) (pe_callB (call_reprV gd hr K) (by rfl) T.m_repr PyProof.Rows.boot_repr (pa_cons (pe_cmpR (op_eqDK K hr) (pv 8) (pe_tup pa_nil) (nomark _)) pa_nil)) (nomark _)) 
          (pss_one (ps_ret pe_bl)
          )
         pss_nil)
        (pss_cons (ps_for PassesOwn.never rfl (pi_range1 (by rfl) T.m_range (pa_cons pe_int pa_nil)) (pg_name (i := 9) sc_law.nd rfl (.inl rfl)) 
          (pss_cons (ps_set (i := 10) sc_law.nd rfl (.inr rfl) (pe_c c_row hr (by first | decide | omega) (by rfl) (pa_cons (pv 2) (pa_cons (pv 3) (pa_cons pe_int pa_nil)))))
          (C8.pss_cut (ps_set (i := 11) sc_law.nd rfl (.inl rfl) (pe_lst (pa_cons (pe_c c_any hr (by first | decide | omega) (by rfl) (pa_cons (pv 2) (pa_cons (pv 4) (pa_cons (pv 10) pa_nil)))) (pa_cons (pe_c c_any hr (by first | decide | omega) (by rfl) (pa_cons (pv 2) (pa_cons (pv 4) (pa_cons (pv 10) pa_nil)))) pa_nil))))
          (pss_one (ps_if (PW.pt (pw_and (pt_cmpR (op_eqDK K hr) (pv 8) (pe_tup pa_nil) (nomark _)) (pw_and1 (pt_cmpR (op_neDK K hr) (pv 11) (pe_op op_rep (pe_lst (pa_cons (pe_mt c_reduced hr (by decide) (pv 5) (pa_cons (pv 10) pa_nil)) pa_nil)) pe_int) (nomark _))))) 
            (pss_one (ps_ret pe_bl)
            )
           pss_nil)
          ))))
        (pss_one (ps_for PassesOwn.never rfl (pi_tup (pv 8)) (tupK K 3 (pgs_cons (pg_name (i := 10) sc_law.nd rfl (.inr rfl)) (pgs_cons (pg_name (i := 12) sc_law.nd rfl (.inl rfl)) (pgs_cons (pg_name (i := 13) sc_law.nd rfl (.inl rfl)) pgs_nil)))) 
          (C8.pss_cut (ps_setLc (i := 14) (own := [("move", 16)]) rfl sc_law.nd rfl rfl rfl (pi_tup (pe_mt c_moves hr (by decide) (pv 5) (pa_cons (pv 10) pa_nil))) (blkOk_by (N := n_law) (sc := fnScope s_law) (by decide +kernel)) (fun _ _ _ _ _ => (pg_name (i := 16) sc_law.nd rfl (.inl rfl))) (fun _ _ _ _ _ => pts_nil) (fun _ _ _ _ _ => (pe_mt c_after hr (by decide) (pv 5) (pa_cons (pv 10) (pa_cons (pv 16) pa_nil)))))
          (pss_one (ps_if (PW.pt (pw_or (pt_cmpR op_eq (pe_mt c_reduced hr (by decide) (pv 5) (pa_cons (pv 12) pa_nil)) (pe_mt c_reduced hr (by decide) (pv 5) (pa_cons (pv 13) pa_nil)) (nomark _)) (pw_or (pt_cmpR (notInK K) (pv 12) (pv 14) rfl) (pw_or1 (pt_cmpR (notInK K) (pv 13) (pv 14) rfl))))) 
            (pss_one (ps_ret pe_bl)
            )
           pss_nil)
          )))
        ))))))))))))
      (pss_one (ps_ret pe_bl)
      )), ?_⟩
    refine ⟨_, rfl, a, _, rfl, .inl ha, _, _, rfl, _, _, rfl, _, rfl, ?_⟩
    rw [List.length_map]
    have hM : 0 ≤ (if (if (ns.length : Int) < 3 then (ns.length : Int) else 3) > 1 then (if (ns.length : Int) < 3 then (ns.length : Int) else 3) else 1) ∧ (if (if (ns.length : Int) < 3 then (ns.length : Int) else 3) > 1 then (if (ns.length : Int) < 3 then (ns.length : Int) else 3) else 1) ≤ 3 := by
      split <;> split <;> omega
    generalize (if (if (ns.length : Int) < 3 then (ns.length : Int) else 3) > 1 then (if (ns.length : Int) < 3 then (ns.length : Int) else 3) else 1) = M at hM ⊢
    refine ⟨by omega, by omega, ?_⟩
    refine for_it (walk_range (lo := 0)) (fun i σ H' => (∃ s1 s2 s3 s4 s5 s6 s7 s8 s9 s10 s11 s12 s13 s14 s15 s16 : Option V, σ = [some (.ref a), s1, s2, s3, s4, s5, s6, s7, s8, s9, s10, s11, s12, s13, s14, s15, s16]) ∧ Same H H')
      ⟨⟨_, _, _, _, _, _, _, _, _, _, _, _, _, _, _, _, rfl⟩, Same.refl _⟩ (fun _ _ _ _ _ => trivial) ?_ ?_
    · rintro i x σ H1 H1' hi ⟨⟨s1, s2, s3, s4, s5, s6, s7, s8, s9, s10, s11, s12, s13, s14, s15, s16, rfl⟩, e1⟩ ⟨rfl, rfl⟩
      clear hi hM
      refine ⟨_, rfl, _, rfl, a, i, ns, by show [V.ref a, V.int (0 + (i : Int))] = _; rw [Int.zero_add], e1.seq ha, hl, fun b H2 h2 nb hB => ?_⟩
      have e2 := e1.trans h2
      have nbH : H b = none := e1.free nb
      have bxs : ∀ {Ha Hb : Hp}, Same H Ha → Bx b Ha Hb → Same H Hb := fun s1 s2 c o e => s2.1 c o (ne_of_none e nbH) (s1 c o e)
      refine ⟨_, rfl, b, rfl, hB, fun sg H3 hm hB3 => ?_⟩
      have e3 := bxs e2 hB3
      have hsl := menu_len hm
      refine ⟨_, rfl, _, rfl, _, rfl, b, 4, rfl, hB3.2, by decide, by decide, fun d H4 d0 d5 hB4 => ⟨_, _, rfl, rfl, ?_⟩⟩
      have e4 := bxs e3 hB4
      have hcast : (1 : Int) + d = ((1 + d.toNat : Nat) : Int) := by omega
      refine ⟨b, sg, 1 + d.toNat, by show [V.ref b, V.str (S sg), V.int (1 + d)] = _; rw [hcast], hm, by omega, hB4.2, fun pl qs ps H5 hB5 hpl0 hpl hpr hdr => ?_⟩
      have e5 := bxs e4 hB5
      have npb : pl ≠ b := box_ne hB4.2 hpl0
      have hd4 : 1 + d.toNat ≤ 20 := by omega
      have g := hdr.gr hm hd4
      have hsh := hdr.short
      have hfew : ps.length ≤ 4 := Nat.le_trans hdr.few (by omega)
      have bx5 := hB5.2
      clear hB hB3 hB4 hB5 e1 e2 e3 e4 h2 hpl0
      refine ⟨_, rfl, _, rfl, fun rl dx hq hdx nx => ?_⟩
      refine make_use hm hd4 hdr (b := true) (hpr.lst hpl) hq hdx nx fun H6 w6 hru => ⟨rfl, ?_⟩
      have h6 : Ls K C b pl qs sg ps rl H6 := ⟨(bk_same w6 bx5).2, npb, w6 _ _ hpl, hpr.same w6, hru⟩
      have e6 := e5.trans w6
      clear hq hdx nx hru w6 bx5 hpl hpr e5 hcast
      refine ⟨_, rfl, pl, qs, sg, ps, rfl, h6.pl, h6.pr, g, hsh, hfew, fun fl us ks H7 w7 hfl htr hks => ?_⟩
      refine ⟨by show 2 ≤ sizeLine; decide, fun t ht => ?_⟩
      have s8' := sm_new (o := .tup [.ref rl, .ref fl]) ht
      refine ⟨t, _, rfl, SqT.of upd_same, rfl, _, _, rfl, _, _, rfl, rfl, ?_⟩
      have h7 := (h6.same w7).same s8'
      have e7 := (e6.trans w7).trans s8'
      have hfl7 := s8' _ _ hfl
      have htr7 := htr.same s8'
      generalize upd H7 t (.tup [.ref rl, .ref fl]) = H8 at h7 e7 hfl7 htr7 ⊢
      clear ht s8' hfl htr w7 h6 e6 H7
      refine ⟨fun σ H' => ∃ (tp lp : Addr) (ts : List K60.Tri), σ = [some (.ref a), some (.int (0 + (i : Int))), some (.ref b), some (.str (S sg)), some (.ref pl), some (.ref rl), some (.ref fl), some (.ref tp), some (.ref lp), s9, s10, s11, s12, s13, s14, s15, s16] ∧ Same H8 H' ∧ Told ps ts ∧ TT K H' tp ts ∧ TT K H' lp (opens ps ts), ?_, ?_⟩
      · refine ⟨_, rfl, rl, sg, ps, rfl, h7.ru, g, hsh, hfew, fun tp xs ts H9 w9 ht hd htd => ?_⟩
        have h9 := h7.same w9
        refine ⟨_, rfl, rfl, ?_⟩
        refine ⟨rl, sg, ps, rfl, h9.ru, g, hsh, hfew, fun lp xs2 ts2 HA wA hl2 htd2 hd2 => ?_⟩
        obtain rfl := htd.uniq htd2
        refine ⟨_, _, rfl, ?_⟩
        exact ⟨tp, lp, ts, rfl, w9.trans wA, htd, ⟨xs, wA _ _ ht, pr_imp (fun _ _ h => dp_same wA _ _ h) hd⟩, ⟨xs2, hl2, hd2⟩⟩
      rintro σ H9 ⟨tp, lp, ts, rfl, w9, htd, tt9, tl9⟩
      have h9 := h7.same w9
      have e9 := e7.trans w9
      have hfl9 := w9 _ _ hfl7
      have htr9 := htr7.same w9
      have hraw : (K60.rawOv ps).length ≤ 64 := K60.raw_len hsh hfew
      have hsmT : SmallT ts := raw_small g hsh fun t ht => ((htd.mem t).mp ht).1
      have hsmK : SmallT ks := raw_small g hsh fun t ht => ((hks.mem t).mp ht).1
      have hsmO : SmallT (opens ps ts) := fun t ht => hsmT t (List.mem_filter.mp ht).1
      have dep : ∀ t : K60.Tri, (tri t).depth ≤ 8 := fun t => by unfold tri; simp [PyData.depth, PyData.depthAll]
      obtain ⟨due1, due2⟩ := htd.due hks
      clear h7 e7 hfl7 htr7 w9 H8
      refine ⟨fun σ H' => σ = [some (.ref a), some (.int (0 + (i : Int))), some (.ref b), some (.str (S sg)), some (.ref pl), some (.ref rl), some (.ref fl), some (.ref tp), some (.ref lp), s9, s10, s11, s12, s13, s14, s15, s16] ∧ Same H9 H', ?_, ?_⟩
      · obtain ⟨xs, ex, dx9⟩ := id tt9
        refine ⟨_, rfl, tp, xs, ts, rfl, SqT.of ex, dx9, PySem.W.AllAlike.of tri_alike, PySem.W.Sortable.tuples fun t => ⟨_, _, rfl⟩, fun t _ => dep t, fun p1 ys1 hp1 hd1 => ?_⟩
        have s1' := sm_new (o := .lst ys1) hp1
        refine ⟨_, rfl, fl, us.map V.ref, ks, rfl, SqL.of (s1' _ _ hfl9), (htr9.same s1').dp, PySem.W.AllAlike.of tri_alike, PySem.W.Sortable.tuples fun t => ⟨_, _, rfl⟩, fun t _ => dep t, fun p2 ys2 hp2 hd2 => ?_⟩
        have s2' := sm_new (o := .lst ys2) hp2
        have sA := s1'.trans s2'
        refine ⟨.list ((ts.mergeSort leT).map tri), .list ((ks.mergeSort leT).map tri), .lst (SqL.of (s2' _ _ upd_same)) (dpa_of (pr_imp (fun _ _ h => dp_same sA _ _ h) hd1)), .lst (SqL.of upd_same) (dpa_of (pr_imp (fun _ _ h => dp_same s2' _ _ h) hd2)), ?_, ?_, _, rfl, ?_⟩
        · exact shaped_tris (fun t ht => hsmT t ((List.mergeSort_perm ts leT).mem_iff.mp ht)) true
        · exact shaped_tris (fun t ht => hsmK t ((List.mergeSort_perm ks leT).mem_iff.mp ht)) true
        refine iteN (by rw [show PyData.eqv (.list ((ts.mergeSort leT).map tri)) (.list ((ks.mergeSort leT).map tri)) = _ from eqv_trisS _ _ true, due1, decide_eq_true rfl]; rfl) ?_
        have hA := h9.same sA
        generalize upd (upd H9 p1 (.lst ys1)) p2 (.lst ys2) = HA at hA sA ⊢
        have lx := paired_len dx9
        have lu := paired_len htr9
        refine ⟨_, rfl, tp, xs, rfl, .inr (SqT.of (sA _ _ ex)), _, rfl, fl, us.map V.ref, rfl, .inl (SqL.of (sA _ _ hfl9)), rfl, _, rfl, ?_⟩
        refine iteN (by rw [List.length_map, lx, lu, due2, decide_eq_true rfl]; rfl) ?_
        refine ⟨_, rfl, rfl, ?_⟩
        refine ⟨rl, sg, ps, rfl, hA.ru, g, hsh, hfew, fun p3 xs3 ts3 HB wB e3 d3 td3 => ?_⟩
        obtain rfl := htd.uniq td3
        have ttB := tt9.keep (KeepT.same (sA.trans wB))
        refine ⟨_, rfl, .tuple (ts.map tri), .tuple (ts.map tri), TT.dp ⟨xs3, e3, d3⟩, ttB.dp, shaped_tris hsmT false, shaped_tris hsmT false, _, rfl, ?_⟩
        refine iteN (by rw [show PyData.eqv (.tuple (ts.map tri)) (.tuple (ts.map tri)) = _ from eqv_trisS ts ts false, decide_eq_true rfl]; rfl) ?_
        exact ⟨rfl, sA.trans wB⟩
      rintro σ HA ⟨rfl, wA⟩
      have hA := h9.same wA
      have eA := e9.trans wA
      have ttA := tt9.keep (KeepT.same wA)
      have tlA := tl9.keep (KeepT.same wA)
      clear h9 e9 tt9 tl9 hfl9 htr9 wA
      refine ⟨fun σ H' => σ = [some (.ref a), some (.int (0 + (i : Int))), some (.ref b), some (.str (S sg)), some (.ref pl), some (.ref rl), some (.ref fl), some (.ref tp), some (.ref lp), s9, s10, s11, s12, s13, s14, s15, s16] ∧ Same HA H', ?_, ?_⟩
      · obtain ⟨xs, ex, dx9⟩ := id ttA
        refine ⟨_, rfl, tp, xs, rfl, .inr (SqT.of ex), fun l hl => ?_⟩
        have s1' := sm_new (o := .lst xs) hl
        refine ⟨_, rfl, tp, xs, ts, rfl, SqT.of (s1' _ _ ex), pr_imp (fun _ _ h => dp_same s1' _ _ h) dx9, PySem.W.AllAlike.of tri_alike, PySem.W.Sortable.tuples fun t => ⟨_, _, rfl⟩, fun t _ => dep t, fun p1 ys1 hp1 hd1 => ?_⟩
        have s2' := sm_new (o := .lst ys1) hp1
        have sA := s1'.trans s2'
        refine ⟨.list (ts.map tri), .list ((ts.mergeSort leT).map tri), .lst (SqL.of (s2' _ _ upd_same)) (dpa_of (pr_imp (fun _ _ h => dp_same sA _ _ h) dx9)), .lst (SqL.of upd_same) (dpa_of (pr_imp (fun _ _ h => dp_same s2' _ _ h) hd1)), shaped_tris hsmT true, ?_, _, rfl, ?_⟩
        · exact shaped_tris (fun t ht => hsmT t ((List.mergeSort_perm ts leT).mem_iff.mp ht)) true
        refine iteN (by rw [show PyData.eqv (.list (ts.map tri)) (.list ((ts.mergeSort leT).map tri)) = _ from eqv_trisS _ _ true, htd.again, decide_eq_true rfl]; rfl) ?_
        exact ⟨rfl, sA⟩
      rintro σ HB ⟨rfl, wB⟩
      have hB := hA.same wB
      have eB := eA.trans wB
      have ttB := ttA.keep (KeepT.same wB)
      have tlB := tlA.keep (KeepT.same wB)
      clear hA eA ttA tlA wB
      refine ⟨fun σ H' => σ = [some (.ref a), some (.int (0 + (i : Int))), some (.ref b), some (.str (S sg)), some (.ref pl), some (.ref rl), some (.ref fl), some (.ref tp), some (.ref lp), s9, s10, s11, s12, s13, s14, s15, s16] ∧ Same HB H', ?_, ?_⟩
      · obtain ⟨xs, ex, dx9⟩ := id ttB
        have hxl := paired_len dx9
        have hfe := htd.few hraw
        refine ⟨_, rfl, _, rfl, tp, rfl, ⟨_, SqT.of ex⟩, fun L hL => ?_⟩
        refine lc_keepF keep_same (walk_tup (K := K) (a := tp) (xs := xs)) hL (by rw [hxl]; exact small1000 (by omega)) (fun j => decide (nf ps (ts.getD j ([], [], [])).2.1 ≠ nf ps (ts.getD j ([], [], [])).2.2)) (fun j y H => xs[j]? = some y) (fun H r => sm_seqT r (SqT.of ex))
            (fun _ _ _ _ _ r h => h) (fun _ _ _ _ _ _ hDa h => h) (fun j x H7 H7' acc N R hj r hDa hy hR hN => ?_) (fun ys H7 hly hg r7 hDs => ?_)
        · obtain ⟨rfl, hx⟩ := hy
          rw [hxl] at hj
          have hg8 : ts[j]? = some (ts.getD j ([], [], [])) := by rw [List.getD_eq_getElem?_getD, List.getElem?_eq_getElem hj]; rfl
          have hmem := ((htd.mem _).mp (List.mem_of_getElem? hg8)).1
          obtain ⟨q, rfl, hq⟩ := tri_dp (paired_get dx9 j _ _ hx hg8)
          generalize ts.getD j ([], [], []) = t at hq hR hN hmem
          obtain ⟨_, ⟨o1, l1⟩, o2, l2⟩ := raw_ok g hsh hmem
          have h7 := hB.same r
          refine ⟨rfl, ?_⟩
          refine ⟨_, rfl, _, rfl, q, _, 1, _, rfl, rfl, sm_seqT r hq, rfl, pl, qs, sg, ps, t.2.1, rfl, h7.pl, h7.pr, g, o1, by omega, fun t1 fl1 us1 ms1 z1 H8 w8 ht1 _ _ hr1 _ _ => ?_⟩
          have h8 := h7.same w8
          refine ⟨t1, _, 1, _, rfl, rfl, SqT.of ht1, rfl, ?_⟩
          refine ⟨_, rfl, _, rfl, q, _, 2, _, rfl, rfl, sm_seqT (r.trans w8) hq, rfl, pl, qs, sg, ps, t.2.2, rfl, h8.pl, h8.pr, g, o2, by omega, fun t2 fl2 us2 ms2 z2 H9 w9 ht2 _ _ hr2 _ _ => ?_⟩
          refine ⟨t2, _, 1, _, rfl, rfl, SqT.of ht2, rfl, ?_⟩
          rw [nf_of hr1, nf_of hr2] at hR hN
          refine ⟨rfl, _, rfl, ?_⟩
          by_cases hne : z1 = z2
          · refine iteN (by rw [hne]; simp) ?_
            exact hN (decide_eq_false fun h => h hne) _ (w8.trans w9)
          · refine iteB (by rw [Bool.not_eq_true', decide_eq_false_iff_not]; exact fun e => hne (S_inj (V.str.inj e))) ?_
            exact ⟨_, rfl, hR (decide_eq_true hne) _ _ (w8.trans w9) hx⟩
        · rw [hxl] at hly hg
          have hf := taken_filter ts ([], [], []) (fun t => decide (nf ps t.2.1 ≠ nf ps t.2.2))
          refine nil1 ⟨L, ys, rfl, .inl ⟨SqL.of hDs, fun so hso => ?_⟩⟩
          have s10' := sm_new (o := .tup ys) hso
          have sA := r7.trans s10'
          have hp : Paired (fun x t => Dp K (upd H7 so (.tup ys)) x (tri t)) ys (opens ps ts) := by
            unfold opens
            rw [← hf]
            refine paired_idx (by rw [List.length_map]; exact hly) fun j y b h1 h2 => ?_
            rw [List.getElem?_map] at h2
            obtain ⟨n, hn, rfl⟩ := Option.map_eq_some_iff.mp h2
            have hx := hg j n y hn h1
            have hnl : n < ts.length := by
              have := List.mem_of_getElem? hn
              exact List.mem_range.mp (List.mem_filter.mp this).1
            have hg8 : ts[n]? = some (ts.getD n ([], [], [])) := by rw [List.getD_eq_getElem?_getD, List.getElem?_eq_getElem hnl]; rfl
            exact dp_same sA _ _ (paired_get dx9 n _ _ hx hg8)
          refine ⟨.tuple ((opens ps ts).map tri), .tuple ((opens ps ts).map tri), (tlB.keep (KeepT.same sA)).dp, TT.dp ⟨ys, upd_same, hp⟩, shaped_tris hsmO false, shaped_tris hsmO false, _, rfl, ?_⟩
          refine iteN (by rw [show PyData.eqv (.tuple ((opens ps ts).map tri)) (.tuple ((opens ps ts).map tri)) = _ from eqv_trisS _ _ false, decide_eq_true rfl]; rfl) ?_
          exact ⟨rfl, sA⟩
      rintro σ HC ⟨rfl, wC⟩
      have hC := hB.same wC
      have eC := eB.trans wC
      have tlC := tlB.keep (KeepT.same wC)
      clear hB eB ttB tlB wC
      refine ⟨fun σ H' => σ = [some (.ref a), some (.int (0 + (i : Int))), some (.ref b), some (.str (S sg)), some (.ref pl), some (.ref rl), some (.ref fl), some (.ref tp), some (.ref lp), s9, s10, s11, s12, s13, s14, s15, s16] ∧ Same HC H', ?_, ?_⟩
      · refine ⟨_, rfl, rfl, ?_⟩
        refine ⟨rl, sg, ps, rfl, hC.ru, g, hsh, hfew, fun ts3 HD wD td3 => ?_⟩
        obtain rfl := htd.uniq td3
        refine ⟨_, .bool _, 0, 0, rfl, .bl _, Fit.bl, by decide, by decide, rfl, ?_⟩
        refine ⟨_, rfl, by show 0 ≤ sizeLine; decide, fun e he => ?_⟩
        have we := sm_new (o := .tup []) he
        refine ⟨.tuple ((opens ps ts).map tri), .tuple ([].map tri), (tlC.keep (KeepT.same (wD.trans we))).dp, .tup (SqT.of upd_same) .nil, shaped_tris hsmO false, shaped_tris (ts := []) (fun _ h => nomatch h) false, ?_⟩
        rw [show PyData.eqv (.tuple ((opens ps ts).map tri)) (.tuple ([].map tri)) = _ from eqv_trisS (opens ps ts) [] false]
        refine ⟨_, .bool _, 0, 0, rfl, .bl _, Fit.bl, by decide, by decide, rfl, ?_⟩
        refine ⟨rfl, _, rfl, iteN (by simp) ?_⟩
        exact ⟨rfl, wD.trans we⟩
      rintro σ HD ⟨rfl, wD⟩
      have hD := hC.same wD
      have eD := eC.trans wD
      have tlD := tlC.keep (KeepT.same wD)
      clear hC eC tlC wD
      refine ⟨6, rfl, by decide, by decide, ?_⟩
      refine for_it (walk_range (lo := 0)) (fun j σ H' => (∃ s9 s10 s11 s12 s13 s14 s15 s16 : Option V, σ = [some (.ref a), some (.int (0 + (i : Int))), some (.ref b), some (.str (S sg)), some (.ref pl), some (.ref rl), some (.ref fl), some (.ref tp), some (.ref lp), s9, s10, s11, s12, s13, s14, s15, s16]) ∧ Same H H' ∧ Ls K C b pl qs sg ps rl H' ∧ TT K H' lp (opens ps ts))
        ⟨⟨_, _, _, _, _, _, _, _, rfl⟩, eD, hD, tlD⟩ (fun _ _ _ _ _ => trivial) ?_ ?_
      · clear hD eD tlD s1 s2 s3 s4 s5 s6 s7 s8 s9 s10 s11 s12 s13 s14 s15 s16
        rintro j x σ H1 H1' hj ⟨⟨s9, s10, s11, s12, s13, s14, s15, s16, rfl⟩, e1, h1, tl1⟩ ⟨rfl, rfl⟩
        refine ⟨_, rfl, _, rfl, b, sg, 9, rfl, hm, by decide, h1.bx, fun row H2 ho hlr hB2 => ?_⟩
        have h2 := h1.box hB2
        have e2 := bxs e1 hB2
        have tl2 := tl1.keep (KeepT.bx h1.bx hB2)
        clear h1 e1 tl1 hB2
        refine ⟨fun σ H' => ∃ (l : Addr) (z1 z2 : List Nat), σ = [some (.ref a), some (.int (0 + (i : Int))), some (.ref b), some (.str (S sg)), some (.ref pl), some (.ref rl), some (.ref fl), some (.ref tp), some (.ref lp), some (.int (0 + (j : Int))), some (.str (S row)), some (.ref l), s12, s13, s14, s15, s16] ∧ Same H H' ∧ Ls K C b pl qs sg ps rl H' ∧ TT K H' lp (opens ps ts) ∧ H' l = some (.lst [.str (S z1), .str (S z2)]) ∧ K60.Rch ps row z1 ∧ K60.movesL ps z1 = [] ∧ K60.Rch ps row z2 ∧ K60.movesL ps z2 = [], ?_, ?_⟩
        · refine ⟨_, rfl, _, rfl, _, rfl, b, pl, qs, sg, ps, row, rfl, h2.bx, h2.pl, h2.npb, h2.pr, g, ho, by omega, fun z1 H3 hB3 r1 n1 => ?_⟩
          have h3 := h2.box hB3
          have e3 := bxs e2 hB3
          have tl3 := tl2.keep (KeepT.bx h2.bx hB3)
          refine ⟨_, rfl, _, rfl, _, rfl, b, pl, qs, sg, ps, row, rfl, h3.bx, h3.pl, h3.npb, h3.pr, g, ho, by omega, fun z2 H4 hB4 r2 n2 => ?_⟩
          have h4 := h3.box hB4
          have e4 := bxs e3 hB4
          have tl4 := tl3.keep (KeepT.bx h3.bx hB4)
          refine ⟨by show 2 ≤ sizeLine; decide, fun l hl => ?_⟩
          have sl := sm_new (o := .lst [.str (S z1), .str (S z2)]) hl
          exact ⟨l, z1, z2, rfl, e4.trans sl, h4.same sl, tl4.keep (KeepT.same sl), upd_same, r1, n1, r2, n2⟩
        rintro σ H3 ⟨l, z1, z2, rfl, e3, h3, tl3, hl3, r1, n1, r2, n2⟩
        clear h2 e2 tl2
        refine ⟨_, rfl, by show 0 ≤ sizeLine; decide, fun e he => ?_⟩
        have we := sm_new (o := .tup []) he
        refine ⟨.tuple ((opens ps ts).map tri), .tuple ([].map tri), (tl3.keep (KeepT.same we)).dp, .tup (SqT.of upd_same) .nil, shaped_tris hsmO false, shaped_tris (ts := []) (fun _ h => nomatch h) false, _, rfl, ?_⟩
        rw [show PyData.eqv (.tuple ((opens ps ts).map tri)) (.tuple ([].map tri)) = _ from eqv_trisS (opens ps ts) [] false]
        have h4 := h3.same we
        have e4 := e3.trans we
        have tl4 := tl3.keep (KeepT.same we)
        have hl4 := we _ _ hl3
        generalize upd H3 e (.tup []) = H4 at h4 e4 tl4 hl4 ⊢
        clear h3 e3 tl3 hl3 we he
        by_cases hop : opens ps ts = []
        · refine iteB (decide_eq_true hop) ?_
          obtain ⟨dx, r, hrl, _⟩ := id h4.ru
          refine ⟨_, rfl, _, rfl, rl, dx, _, rfl, hrl, ruF_no _ _ (by decide +kernel) (by decide +kernel), _, rfl, rl, sg, ps, row, rfl, h4.ru, g, ho, by omega, fun ms z H5 w5 hroad hoz hlz => ?_⟩
          obtain rfl := all_one g hsh hdr htd hop ho r1 n1 hroad
          obtain rfl := all_one g hsh hdr htd hop ho r2 n2 hroad
          have hsz : Small [z2, z2] := fun y hy c hc => by
            simp only [List.mem_cons, List.not_mem_nil, or_false, or_self] at hy
            rw [hy] at hc
            exact g.sm c (hoz c hc)
          refine ⟨by show 1 ≤ sizeLine; decide, fun q hq => ?_⟩
          have wq := sm_new (o := .lst [.str (S z2)]) hq
          refine ⟨q, 2, _, rfl, rfl, upd_same, by decide, by decide, by show 1 * 2 ≤ sizeLine; decide, fun p hp => ?_⟩
          have wp := sm_new (o := .lst (List.replicate (2 : Int).toNat [V.str (S z2)]).flatten) hp
          have wA := w5.trans (wq.trans wp)
          refine ⟨.list ([z2, z2].map fun y => .str (S y)), .list ([z2, z2].map fun y => .str (S y)), .lst (SqL.of (wA _ _ hl4)) (dp_strs [z2, z2]), .lst (SqL.of upd_same) (dp_strs [z2, z2]), shaped_lst hsz, shaped_lst hsz, _, rfl, ?_⟩
          refine iteN (by rw [show PyData.eqv (.list ([z2, z2].map fun y => .str (S y))) (.list ([z2, z2].map fun y => .str (S y))) = _ from eqv_strs _ _, decide_eq_true rfl]; rfl) ?_
          exact ⟨⟨_, _, _, _, _, _, _, _, rfl⟩, e4.trans wA, h4.same wA, tl4.keep (KeepT.same wA)⟩
        · refine iteN (decide_eq_false hop) (iteN rfl ?_)
          exact ⟨⟨_, _, _, _, _, _, _, _, rfl⟩, e4, h4, tl4⟩
      · rintro σ H1 ⟨⟨s9, s10, s11, s12, s13, s14, s15, s16, rfl⟩, e1, h1, tl1⟩
        obtain ⟨xs, ex, dxs⟩ := id tl1
        have hxl := paired_len dxs
        refine ⟨_, rfl, lp, rfl, ⟨_, SqT.of ex⟩, ?_⟩
        refine for_it (walk_tup (K := K) (a := lp) (xs := xs)) (fun j σ H' => (∃ s9 s10 s11 s12 s13 s14 s15 s16 : Option V, σ = [some (.ref a), some (.int (0 + (i : Int))), some (.ref b), some (.str (S sg)), some (.ref pl), some (.ref rl), some (.ref fl), some (.ref tp), some (.ref lp), s9, s10, s11, s12, s13, s14, s15, s16]) ∧ Same H1 H')
          ⟨⟨_, _, _, _, _, _, _, _, rfl⟩, Same.refl _⟩ (fun _ _ _ _ h => sm_seqT h.2 (SqT.of ex)) ?_ ?_
        · clear s1 s2 s3 s4 s5 s6 s7 s8 s9 s10 s11 s12 s13 s14 s15 s16
          rintro j x σ H2 H2' hj ⟨⟨s9, s10, s11, s12, s13, s14, s15, s16, rfl⟩, w2⟩ ⟨rfl, hx⟩
          rw [hxl] at hj
          have hg8 : (opens ps ts)[j]? = some ((opens ps ts).getD j ([], [], [])) := by rw [List.getD_eq_getElem?_getD, List.getElem?_eq_getElem hj]; rfl
          have hmo := List.mem_of_getElem? hg8
          obtain ⟨q, rfl, hq⟩ := tri_dp (paired_get dxs j _ _ hx hg8)
          generalize (opens ps ts).getD j ([], [], []) = t at hq hmo
          have hmt := ((htd.mem t).mp (List.mem_filter.mp hmo).1).1
          have hnf : nf ps t.2.1 ≠ nf ps t.2.2 := of_decide_eq_true (List.mem_filter.mp hmo).2
          obtain ⟨⟨o0, l0⟩, ⟨o1, l1⟩, o2, l2⟩ := raw_ok g hsh hmt
          obtain ⟨la1, la2⟩ := later_mem g hmt
          have h2 := h1.same w2
          refine ⟨q, _, rfl, sm_seqT w2 hq, rfl, _, _, rfl, _, _, rfl, _, _, rfl, rfl, ?_⟩
          obtain ⟨dx, r0, hrl, _⟩ := id h2.ru
          refine ⟨fun σ H' => ∃ (l : Addr), σ = [some (.ref a), some (.int (0 + (i : Int))), some (.ref b), some (.str (S sg)), some (.ref pl), some (.ref rl), some (.ref fl), some (.ref tp), some (.ref lp), s9, some (.str (S t.1)), s11, some (.str (S t.2.1)), some (.str (S t.2.2)), some (.ref l), s15, s16] ∧ Same H2' H' ∧ H' l = some (.lst (txs ((K60.movesL ps t.1).map (K60.afterL ps t.1)))), ?_, ?_⟩
          · refine ⟨_, rfl, rl, dx, _, rfl, hrl, ruF_no _ _ (by decide +kernel) (by decide +kernel), _, rfl, rl, sg, ps, t.1, rfl, h2.ru, g, by omega, fun p H3 w3 hd3 => ?_⟩
            obtain ⟨ms, hsm, hdm⟩ : ∃ ms, SqT K H3 p ms ∧ DpAll K H3 ms ((K60.movesL ps t.1).map mvD) := by
              unfold mvsD at hd3
              cases hd3 with
              | tup h1 h2 => exact ⟨_, h1, h2⟩
            have hml := LX.dpa_len hdm
            rw [List.length_map] at hml
            have hm8 := moves_len ps t.1
            have hm84 : t.1.length * ps.length ≤ 8 * 4 := Nat.mul_le_mul l0 hfew
            refine ⟨p, rfl, ⟨_, hsm⟩, fun L hL => ?_⟩
            refine lc_keep keep_same (walk_tup (K := K) (a := p) (xs := ms)) hL (by rw [hml]; exact small1000 (by omega)) (fun k y => ∀ m, (K60.movesL ps t.1)[k]? = some m → y = .str (S (K60.afterL ps t.1 m))) (fun H r => sm_seqT r hsm) (fun k x H4 H5 R hk r4 hy hR => ?_) (fun ys H4 hly hg w4 hDs => ?_)
            · obtain ⟨rfl, hx⟩ := hy
              obtain ⟨d, ed, hdx⟩ := LX.dpa_at hdm k x hx
              rw [List.getElem?_map] at ed
              obtain ⟨m, em, rfl⟩ := Option.map_eq_some_iff.mp ed
              obtain ⟨mm, rfl, hmm⟩ := mv_dp hdx
              obtain ⟨g1, g2, g3⟩ := K60.mem_moves.mp (List.mem_of_getElem? em)
              have h5 := h2.same (w3.trans r4)
              refine ⟨rfl, ?_⟩
              refine ⟨_, rfl, rl, dx, _, rfl, (w3.trans r4) _ _ hrl, ruF_no _ _ (by decide +kernel) (by decide +kernel), _, rfl, _, rfl, rl, mm, sg, ps, t.1, m, rfl, h5.ru, g, g.short2, by omega, sm_seqT r4 hmm, Nat.le_of_lt g1, g2, fun H6 w6 => ?_⟩
              exact hR _ _ w6 fun m' e' => by rw [em] at e'; cases e'; rfl
            have ey : ys = txs ((K60.movesL ps t.1).map (K60.afterL ps t.1)) := by
              unfold txs
              rw [List.map_map]
              refine list_map (by rw [hly, hml]) fun k y m e1 e2 => ?_
              exact hg k y e1 m e2
            subst ey
            exact ⟨L, rfl, w3.trans w4, hDs⟩
          rintro σ H3 ⟨l, rfl, w3, hl3⟩
          have h3 := h2.same w3
          refine ⟨_, rfl, rl, dx, _, rfl, w3 _ _ hrl, ruF_no _ _ (by decide +kernel) (by decide +kernel), _, rfl, rl, sg, ps, t.2.1, rfl, h3.ru, g, o1, by omega, fun m1 z1 H4 w4 hr1 _ _ => ?_⟩
          have h4 := h3.same w4
          refine ⟨_, rfl, rl, dx, _, rfl, (w3.trans w4) _ _ hrl, ruF_no _ _ (by decide +kernel) (by decide +kernel), _, rfl, rl, sg, ps, t.2.2, rfl, h4.ru, g, o2, by omega, fun m2 z2 H5 w5 hr2 _ _ => ?_⟩
          rw [nf_of hr1, nf_of hr2] at hnf
          refine ⟨rfl, _, rfl, iteN (decide_eq_false fun e => hnf (S_inj (V.str.inj e))) ?_⟩
          have hl5 := (w4.trans w5) _ _ hl3
          have fall : ((txs ((K60.movesL ps t.1).map (K60.afterL ps t.1))).all flatV) = true := List.all_eq_true.mpr fun y hy => by
            obtain ⟨_, _, rfl⟩ := List.mem_map.mp hy
            rfl
          refine ⟨_, rfl, _, rfl, l, _, rfl, .inl (SqL.of hl5), rfl, fall, _, rfl, ?_⟩
          rw [inV_txs, decide_eq_true la1]
          refine iteN rfl ?_
          refine ⟨_, rfl, _, rfl, l, _, rfl, .inl (SqL.of hl5), rfl, fall, _, rfl, ?_⟩
          rw [inV_txs, decide_eq_true la2]
          refine iteN rfl ?_
          exact ⟨⟨_, _, _, _, _, _, _, _, rfl⟩, w2.trans (w3.trans (w4.trans w5))⟩
        · rintro σ H2 ⟨⟨s9, s10, s11, s12, s13, s14, s15, s16, rfl⟩, w2⟩
          exact ⟨⟨_, _, _, _, _, _, _, _, _, _, _, _, _, _, _, _, rfl⟩, e1.trans w2⟩
    · rintro σ H1 ⟨⟨s1, s2, s3, s4, s5, s6, s7, s8, s9, s10, s11, s12, s13, s14, s15, s16, rfl⟩, e1⟩
      exact kk _
end
end Toy
set_option maxHeartbeats 2000000
namespace Toy
open PySem L2 C8 SX LX
section
variable {P : Program} {w : World} {K : PySem.W.Frag} {mg : Str → Option Value} {base : Heap}
theorem fn_order2 (T : BT mg) {f : Addr} {fd : FuncData} (F : Def K mg "row_order" s_order f fd) : FnOk P w K mg base C8.CX0 1 f fd ["row"] spOrd := by
  refine fn0 F.fn sc_order (fun vs H Q E h => ?_) (fun cdv A outer s H vs Q E hr h => ?_)
  · obtain ⟨l, rfl, _⟩ := h; rfl
  · obtain ⟨l, rfl, hl, k⟩ := h
    refine ⟨_, (pss_one (ps_ret (pe_tup (pa_cons (pe_callB call_len_str (by rfl) T.m_len PySem.boot_len (pa_cons (pv 0) pa_nil)) (pa_cons (pv 0) pa_nil))))
      ), ?_⟩
    refine ⟨_, rfl, S l, rfl, by rw [S_len]; exact sz hl (by decide), _, rfl, by show 2 ≤ sizeLine; decide, fun t ht => ?_⟩
    rw [S_len]
    exact k t _ (sm_new ht) upd_same
theorem fn_rank2 (T : BT mg) {f : Addr} {fd : FuncData} (F : Def K mg "_law_rank" s_rank f fd) : FnOk P w K mg base C8.CX0 1 f fd ["row"] spOrd := by
  refine fn0 F.fn sc_rank (fun vs H Q E h => ?_) (fun cdv A outer s H vs Q E hr h => ?_)
  · obtain ⟨l, rfl, _⟩ := h; rfl
  · obtain ⟨l, rfl, hl, k⟩ := h
    refine ⟨_, (pss_one (ps_ret (pe_tup (pa_cons (pe_callB call_len_str (by rfl) T.m_len PySem.boot_len (pa_cons (pv 0) pa_nil)) (pa_cons (pv 0) pa_nil))))
      ), ?_⟩
    refine ⟨_, rfl, S l, rfl, by rw [S_len]; exact sz hl (by decide), _, rfl, by show 2 ≤ sizeLine; decide, fun t ht => ?_⟩
    rw [S_len]
    exact k t _ (sm_new ht) upd_same
end
end Toy
set_option maxHeartbeats 8000000
namespace Toy
open PySem L2 C8 SX LX
theorem all_mk {l : PySem.W.OpenLaw} {w : World} {K : PySem.W.Frag} {h : Heap} {mg : Str → Option Value} {fa : Addr} {f_box f_take f_pick f_rank f_signs f_row f_pairs f_lmoves f_lafter f_lroad f_lov f_any f_isseq f_tupof f_isletters f_issigns f_isrow f_order f_xir f_init f_moves f_after f_reduced f_steps f_least f_ispairs f_ispair f_ov f_open f_compl f_law C_Rules C_InvalidRules : Addr} (X : K.In h) (G : h.Ns mainGlobals mg) (hfa : mg "law" = some (.ref fa))
    {od_box an_box : Option Addr} {sl_box : Array (Option Value)} {oc_box kV_box dc_box pm_box cd_box ct_box : Value}
    {od_take an_take : Option Addr} {sl_take : Array (Option Value)} {oc_take kV_take dc_take pm_take cd_take ct_take : Value}
    {od_pick an_pick : Option Addr} {sl_pick : Array (Option Value)} {oc_pick kV_pick dc_pick pm_pick cd_pick ct_pick : Value}
    {od_rank an_rank : Option Addr} {sl_rank : Array (Option Value)} {oc_rank kV_rank dc_rank pm_rank cd_rank ct_rank : Value}
    {od_signs an_signs : Option Addr} {sl_signs : Array (Option Value)} {oc_signs kV_signs dc_signs pm_signs cd_signs ct_signs : Value}
    {od_row an_row : Option Addr} {sl_row : Array (Option Value)} {oc_row kV_row dc_row pm_row cd_row ct_row : Value}
    {od_pairs an_pairs : Option Addr} {sl_pairs : Array (Option Value)} {oc_pairs kV_pairs dc_pairs pm_pairs cd_pairs ct_pairs : Value}
    {od_lmoves an_lmoves : Option Addr} {sl_lmoves : Array (Option Value)} {oc_lmoves kV_lmoves dc_lmoves pm_lmoves cd_lmoves ct_lmoves : Value}
    {od_lafter an_lafter : Option Addr} {sl_lafter : Array (Option Value)} {oc_lafter kV_lafter dc_lafter pm_lafter cd_lafter ct_lafter : Value}
    {od_lroad an_lroad : Option Addr} {sl_lroad : Array (Option Value)} {oc_lroad kV_lroad dc_lroad pm_lroad cd_lroad ct_lroad : Value}
    {od_lov an_lov : Option Addr} {sl_lov : Array (Option Value)} {oc_lov kV_lov dc_lov pm_lov cd_lov ct_lov : Value}
    {od_any an_any : Option Addr} {sl_any : Array (Option Value)} {oc_any kV_any dc_any pm_any cd_any ct_any : Value}
    {od_isseq an_isseq : Option Addr} {sl_isseq : Array (Option Value)} {oc_isseq kV_isseq dc_isseq pm_isseq cd_isseq ct_isseq : Value}
    {od_tupof an_tupof : Option Addr} {sl_tupof : Array (Option Value)} {oc_tupof kV_tupof dc_tupof pm_tupof cd_tupof ct_tupof : Value}
    {od_isletters an_isletters : Option Addr} {sl_isletters : Array (Option Value)} {oc_isletters kV_isletters dc_isletters pm_isletters cd_isletters ct_isletters : Value}
    {od_issigns an_issigns : Option Addr} {sl_issigns : Array (Option Value)} {oc_issigns kV_issigns dc_issigns pm_issigns cd_issigns ct_issigns : Value}
    {od_isrow an_isrow : Option Addr} {sl_isrow : Array (Option Value)} {oc_isrow kV_isrow dc_isrow pm_isrow cd_isrow ct_isrow : Value}
    {od_order an_order : Option Addr} {sl_order : Array (Option Value)} {oc_order kV_order dc_order pm_order cd_order ct_order : Value}
    {od_xir an_xir : Option Addr} {sl_xir : Array (Option Value)} {oc_xir kV_xir dc_xir pm_xir cd_xir ct_xir : Value}
    {od_init an_init : Option Addr} {sl_init : Array (Option Value)} {oc_init kV_init dc_init pm_init cd_init ct_init : Value}
    {od_moves an_moves : Option Addr} {sl_moves : Array (Option Value)} {oc_moves kV_moves dc_moves pm_moves cd_moves ct_moves : Value}
    {od_after an_after : Option Addr} {sl_after : Array (Option Value)} {oc_after kV_after dc_after pm_after cd_after ct_after : Value}
    {od_reduced an_reduced : Option Addr} {sl_reduced : Array (Option Value)} {oc_reduced kV_reduced dc_reduced pm_reduced cd_reduced ct_reduced : Value}
    {od_steps an_steps : Option Addr} {sl_steps : Array (Option Value)} {oc_steps kV_steps dc_steps pm_steps cd_steps ct_steps : Value}
    {od_least an_least : Option Addr} {sl_least : Array (Option Value)} {oc_least kV_least dc_least pm_least cd_least ct_least : Value}
    {od_ispairs an_ispairs : Option Addr} {sl_ispairs : Array (Option Value)} {oc_ispairs kV_ispairs dc_ispairs pm_ispairs cd_ispairs ct_ispairs : Value}
    {od_ispair an_ispair : Option Addr} {sl_ispair : Array (Option Value)} {oc_ispair kV_ispair dc_ispair pm_ispair cd_ispair ct_ispair : Value}
    {od_ov an_ov : Option Addr} {sl_ov : Array (Option Value)} {oc_ov kV_ov dc_ov pm_ov cd_ov ct_ov : Value}
    {od_open an_open : Option Addr} {sl_open : Array (Option Value)} {oc_open kV_open dc_open pm_open cd_open ct_open : Value}
    {od_compl an_compl : Option Addr} {sl_compl : Array (Option Value)} {oc_compl kV_compl dc_compl pm_compl cd_compl ct_compl : Value}
    {od_law an_law : Option Addr} {sl_law : Array (Option Value)} {oc_law kV_law dc_law pm_law cd_law ct_law : Value}
    {tk_az : Tok}
    (q_az : PySem.W.nsIn K mainGlobals "_LETTERS" = some (some (.str (S az) tk_az)))
    (g_Rules : PySem.W.nsIn K mainGlobals "Rules" = some (some (.ref C_Rules)))
    (pg_Rules : PySem.W.plainGet K C_Rules Str.empty = true)
    (hd_Rules : PySem.W.hasDictIn K C_Rules = true)
    (po_Rules : PySem.W.plainOver K C_Rules = true)
    (sa_Rules : PySem.W.findIn K (.ref C_Rules) "__setattr__" = some (some (.builtin "object.__setattr__")))
    (kc_Rules : PySem.W.keepIn K (.ref C_Rules) = true)
    (n_Rules_signs : PySem.W.findIn K (.ref C_Rules) "signs" = some none)
    (n_Rules_pairs : PySem.W.findIn K (.ref C_Rules) "pairs" = some none)
    (mk_Rules : PySem.W.makesIn K C_Rules = true)
    (xg_InvalidRules : PySem.W.nsIn K mainGlobals "InvalidRules" = some (some (.ref C_InvalidRules)))
    (xc_InvalidRules : XC K C_InvalidRules)
    (xf_InvalidRules : PySem.W.findIn K (.ref C_InvalidRules) "word" = some none)
    (a_box : PySem.W.nsIn K mainGlobals "_law_box" = some (some (.ref f_box)))
    (l_box : K.lookup f_box = some ⟨oc_box, od_box, .func (PySem.W.fnOf "_law_box" "_law_box" (C8.fnArgs s_box) (C8.fnBody s_box) (C8.fnScope s_box) .none kV_box dc_box pm_box an_box cd_box ct_box), sl_box⟩)
    (c_box : PySem.W.codeIn K cd_box "_law_box" = true)
    (k_box : PySem.W.keepIn K (.ref f_box) = true)
    (a_take : PySem.W.nsIn K mainGlobals "_law_take" = some (some (.ref f_take)))
    (l_take : K.lookup f_take = some ⟨oc_take, od_take, .func (PySem.W.fnOf "_law_take" "_law_take" (C8.fnArgs s_take) (C8.fnBody s_take) (C8.fnScope s_take) .none kV_take dc_take pm_take an_take cd_take ct_take), sl_take⟩)
    (c_take : PySem.W.codeIn K cd_take "_law_take" = true)
    (k_take : PySem.W.keepIn K (.ref f_take) = true)
    (a_pick : PySem.W.nsIn K mainGlobals "_law_pick" = some (some (.ref f_pick)))
    (l_pick : K.lookup f_pick = some ⟨oc_pick, od_pick, .func (PySem.W.fnOf "_law_pick" "_law_pick" (C8.fnArgs s_pick) (C8.fnBody s_pick) (C8.fnScope s_pick) .none kV_pick dc_pick pm_pick an_pick cd_pick ct_pick), sl_pick⟩)
    (c_pick : PySem.W.codeIn K cd_pick "_law_pick" = true)
    (k_pick : PySem.W.keepIn K (.ref f_pick) = true)
    (a_rank : PySem.W.nsIn K mainGlobals "_law_rank" = some (some (.ref f_rank)))
    (l_rank : K.lookup f_rank = some ⟨oc_rank, od_rank, .func (PySem.W.fnOf "_law_rank" "_law_rank" (C8.fnArgs s_rank) (C8.fnBody s_rank) (C8.fnScope s_rank) .none kV_rank dc_rank pm_rank an_rank cd_rank ct_rank), sl_rank⟩)
    (c_rank : PySem.W.codeIn K cd_rank "_law_rank" = true)
    (k_rank : PySem.W.keepIn K (.ref f_rank) = true)
    (a_signs : PySem.W.nsIn K mainGlobals "_law_signs" = some (some (.ref f_signs)))
    (l_signs : K.lookup f_signs = some ⟨oc_signs, od_signs, .func (PySem.W.fnOf "_law_signs" "_law_signs" (C8.fnArgs s_signs) (C8.fnBody s_signs) (C8.fnScope s_signs) .none kV_signs dc_signs pm_signs an_signs cd_signs ct_signs), sl_signs⟩)
    (c_signs : PySem.W.codeIn K cd_signs "_law_signs" = true)
    (k_signs : PySem.W.keepIn K (.ref f_signs) = true)
    (a_row : PySem.W.nsIn K mainGlobals "_law_row" = some (some (.ref f_row)))
    (l_row : K.lookup f_row = some ⟨oc_row, od_row, .func (PySem.W.fnOf "_law_row" "_law_row" (C8.fnArgs s_row) (C8.fnBody s_row) (C8.fnScope s_row) .none kV_row dc_row pm_row an_row cd_row ct_row), sl_row⟩)
    (c_row : PySem.W.codeIn K cd_row "_law_row" = true)
    (k_row : PySem.W.keepIn K (.ref f_row) = true)
    (a_pairs : PySem.W.nsIn K mainGlobals "_law_pairs" = some (some (.ref f_pairs)))
    (l_pairs : K.lookup f_pairs = some ⟨oc_pairs, od_pairs, .func (PySem.W.fnOf "_law_pairs" "_law_pairs" (C8.fnArgs s_pairs) (C8.fnBody s_pairs) (C8.fnScope s_pairs) .none kV_pairs dc_pairs pm_pairs an_pairs cd_pairs ct_pairs), sl_pairs⟩)
    (c_pairs : PySem.W.codeIn K cd_pairs "_law_pairs" = true)
    (k_pairs : PySem.W.keepIn K (.ref f_pairs) = true)
    (a_lmoves : PySem.W.nsIn K mainGlobals "_law_moves" = some (some (.ref f_lmoves)))
    (l_lmoves : K.lookup f_lmoves = some ⟨oc_lmoves, od_lmoves, .func (PySem.W.fnOf "_law_moves" "_law_moves" (C8.fnArgs s_lmoves) (C8.fnBody s_lmoves) (C8.fnScope s_lmoves) .none kV_lmoves dc_lmoves pm_lmoves an_lmoves cd_lmoves ct_lmoves), sl_lmoves⟩)
    (c_lmoves : PySem.W.codeIn K cd_lmoves "_law_moves" = true)
    (k_lmoves : PySem.W.keepIn K (.ref f_lmoves) = true)
    (a_lafter : PySem.W.nsIn K mainGlobals "_law_after" = some (some (.ref f_lafter)))
    (l_lafter : K.lookup f_lafter = some ⟨oc_lafter, od_lafter, .func (PySem.W.fnOf "_law_after" "_law_after" (C8.fnArgs s_lafter) (C8.fnBody s_lafter) (C8.fnScope s_lafter) .none kV_lafter dc_lafter pm_lafter an_lafter cd_lafter ct_lafter), sl_lafter⟩)
    (c_lafter : PySem.W.codeIn K cd_lafter "_law_after" = true)
    (k_lafter : PySem.W.keepIn K (.ref f_lafter) = true)
    (a_lroad : PySem.W.nsIn K mainGlobals "_law_road" = some (some (.ref f_lroad)))
    (l_lroad : K.lookup f_lroad = some ⟨oc_lroad, od_lroad, .func (PySem.W.fnOf "_law_road" "_law_road" (C8.fnArgs s_lroad) (C8.fnBody s_lroad) (C8.fnScope s_lroad) .none kV_lroad dc_lroad pm_lroad an_lroad cd_lroad ct_lroad), sl_lroad⟩)
    (c_lroad : PySem.W.codeIn K cd_lroad "_law_road" = true)
    (k_lroad : PySem.W.keepIn K (.ref f_lroad) = true)
    (a_lov : PySem.W.nsIn K mainGlobals "_law_overlaps" = some (some (.ref f_lov)))
    (l_lov : K.lookup f_lov = some ⟨oc_lov, od_lov, .func (PySem.W.fnOf "_law_overlaps" "_law_overlaps" (C8.fnArgs s_lov) (C8.fnBody s_lov) (C8.fnScope s_lov) .none kV_lov dc_lov pm_lov an_lov cd_lov ct_lov), sl_lov⟩)
    (c_lov : PySem.W.codeIn K cd_lov "_law_overlaps" = true)
    (k_lov : PySem.W.keepIn K (.ref f_lov) = true)
    (a_any : PySem.W.nsIn K mainGlobals "_law_any_road" = some (some (.ref f_any)))
    (l_any : K.lookup f_any = some ⟨oc_any, od_any, .func (PySem.W.fnOf "_law_any_road" "_law_any_road" (C8.fnArgs s_any) (C8.fnBody s_any) (C8.fnScope s_any) .none kV_any dc_any pm_any an_any cd_any ct_any), sl_any⟩)
    (c_any : PySem.W.codeIn K cd_any "_law_any_road" = true)
    (k_any : PySem.W.keepIn K (.ref f_any) = true)
    (a_isseq : PySem.W.nsIn K mainGlobals "is_sequence" = some (some (.ref f_isseq)))
    (l_isseq : K.lookup f_isseq = some ⟨oc_isseq, od_isseq, .func (PySem.W.fnOf "is_sequence" "is_sequence" (C8.fnArgs s_isseq) (C8.fnBody s_isseq) (C8.fnScope s_isseq) .none kV_isseq dc_isseq pm_isseq an_isseq cd_isseq ct_isseq), sl_isseq⟩)
    (c_isseq : PySem.W.codeIn K cd_isseq "is_sequence" = true)
    (k_isseq : PySem.W.keepIn K (.ref f_isseq) = true)
    (a_tupof : PySem.W.nsIn K mainGlobals "is_tuple_of" = some (some (.ref f_tupof)))
    (l_tupof : K.lookup f_tupof = some ⟨oc_tupof, od_tupof, .func (PySem.W.fnOf "is_tuple_of" "is_tuple_of" (C8.fnArgs s_tupof) (C8.fnBody s_tupof) (C8.fnScope s_tupof) .none kV_tupof dc_tupof pm_tupof an_tupof cd_tupof ct_tupof), sl_tupof⟩)
    (c_tupof : PySem.W.codeIn K cd_tupof "is_tuple_of" = true)
    (k_tupof : PySem.W.keepIn K (.ref f_tupof) = true)
    (a_isletters : PySem.W.nsIn K mainGlobals "is_letters" = some (some (.ref f_isletters)))
    (l_isletters : K.lookup f_isletters = some ⟨oc_isletters, od_isletters, .func (PySem.W.fnOf "is_letters" "is_letters" (C8.fnArgs s_isletters) (C8.fnBody s_isletters) (C8.fnScope s_isletters) .none kV_isletters dc_isletters pm_isletters an_isletters cd_isletters ct_isletters), sl_isletters⟩)
    (c_isletters : PySem.W.codeIn K cd_isletters "is_letters" = true)
    (k_isletters : PySem.W.keepIn K (.ref f_isletters) = true)
    (a_issigns : PySem.W.nsIn K mainGlobals "is_signs" = some (some (.ref f_issigns)))
    (l_issigns : K.lookup f_issigns = some ⟨oc_issigns, od_issigns, .func (PySem.W.fnOf "is_signs" "is_signs" (C8.fnArgs s_issigns) (C8.fnBody s_issigns) (C8.fnScope s_issigns) .none kV_issigns dc_issigns pm_issigns an_issigns cd_issigns ct_issigns), sl_issigns⟩)
    (c_issigns : PySem.W.codeIn K cd_issigns "is_signs" = true)
    (k_issigns : PySem.W.keepIn K (.ref f_issigns) = true)
    (a_isrow : PySem.W.nsIn K mainGlobals "is_row" = some (some (.ref f_isrow)))
    (l_isrow : K.lookup f_isrow = some ⟨oc_isrow, od_isrow, .func (PySem.W.fnOf "is_row" "is_row" (C8.fnArgs s_isrow) (C8.fnBody s_isrow) (C8.fnScope s_isrow) .none kV_isrow dc_isrow pm_isrow an_isrow cd_isrow ct_isrow), sl_isrow⟩)
    (c_isrow : PySem.W.codeIn K cd_isrow "is_row" = true)
    (k_isrow : PySem.W.keepIn K (.ref f_isrow) = true)
    (a_order : PySem.W.nsIn K mainGlobals "row_order" = some (some (.ref f_order)))
    (l_order : K.lookup f_order = some ⟨oc_order, od_order, .func (PySem.W.fnOf "row_order" "row_order" (C8.fnArgs s_order) (C8.fnBody s_order) (C8.fnScope s_order) .none kV_order dc_order pm_order an_order cd_order ct_order), sl_order⟩)
    (c_order : PySem.W.codeIn K cd_order "row_order" = true)
    (k_order : PySem.W.keepIn K (.ref f_order) = true)
    (a_xir : PySem.W.findIn K (.ref C_InvalidRules) "__init__" = some (some (.ref f_xir)))
    (i_xir : PySem.W.isFn K (.ref f_xir) = true)
    (l_xir : K.lookup f_xir = some ⟨oc_xir, od_xir, .func (PySem.W.fnOf "__init__" "InvalidRules.__init__" (C8.fnArgs s_xir) (C8.fnBody s_xir) (C8.fnScope s_xir) .none kV_xir dc_xir pm_xir an_xir cd_xir ct_xir), sl_xir⟩)
    (c_xir : PySem.W.codeIn K cd_xir "InvalidRules.__init__" = true)
    (k_xir : PySem.W.keepIn K (.ref f_xir) = true)
    (a_init : PySem.W.findIn K (.ref C_Rules) "__init__" = some (some (.ref f_init)))
    (i_init : PySem.W.isFn K (.ref f_init) = true)
    (l_init : K.lookup f_init = some ⟨oc_init, od_init, .func (PySem.W.fnOf "__init__" "Rules.__init__" (C8.fnArgs s_init) (C8.fnBody s_init) (C8.fnScope s_init) .none kV_init dc_init pm_init an_init cd_init ct_init), sl_init⟩)
    (c_init : PySem.W.codeIn K cd_init "Rules.__init__" = true)
    (k_init : PySem.W.keepIn K (.ref f_init) = true)
    (a_moves : PySem.W.findIn K (.ref C_Rules) "moves" = some (some (.ref f_moves)))
    (i_moves : PySem.W.isFn K (.ref f_moves) = true)
    (l_moves : K.lookup f_moves = some ⟨oc_moves, od_moves, .func (PySem.W.fnOf "moves" "Rules.moves" (C8.fnArgs s_moves) (C8.fnBody s_moves) (C8.fnScope s_moves) .none kV_moves dc_moves pm_moves an_moves cd_moves ct_moves), sl_moves⟩)
    (c_moves : PySem.W.codeIn K cd_moves "Rules.moves" = true)
    (k_moves : PySem.W.keepIn K (.ref f_moves) = true)
    (a_after : PySem.W.findIn K (.ref C_Rules) "after" = some (some (.ref f_after)))
    (i_after : PySem.W.isFn K (.ref f_after) = true)
    (l_after : K.lookup f_after = some ⟨oc_after, od_after, .func (PySem.W.fnOf "after" "Rules.after" (C8.fnArgs s_after) (C8.fnBody s_after) (C8.fnScope s_after) .none kV_after dc_after pm_after an_after cd_after ct_after), sl_after⟩)
    (c_after : PySem.W.codeIn K cd_after "Rules.after" = true)
    (k_after : PySem.W.keepIn K (.ref f_after) = true)
    (a_reduced : PySem.W.findIn K (.ref C_Rules) "reduced" = some (some (.ref f_reduced)))
    (i_reduced : PySem.W.isFn K (.ref f_reduced) = true)
    (l_reduced : K.lookup f_reduced = some ⟨oc_reduced, od_reduced, .func (PySem.W.fnOf "reduced" "Rules.reduced" (C8.fnArgs s_reduced) (C8.fnBody s_reduced) (C8.fnScope s_reduced) .none kV_reduced dc_reduced pm_reduced an_reduced cd_reduced ct_reduced), sl_reduced⟩)
    (c_reduced : PySem.W.codeIn K cd_reduced "Rules.reduced" = true)
    (k_reduced : PySem.W.keepIn K (.ref f_reduced) = true)
    (a_steps : PySem.W.findIn K (.ref C_Rules) "steps_down" = some (some (.ref f_steps)))
    (i_steps : PySem.W.isFn K (.ref f_steps) = true)
    (l_steps : K.lookup f_steps = some ⟨oc_steps, od_steps, .func (PySem.W.fnOf "steps_down" "Rules.steps_down" (C8.fnArgs s_steps) (C8.fnBody s_steps) (C8.fnScope s_steps) .none kV_steps dc_steps pm_steps an_steps cd_steps ct_steps), sl_steps⟩)
    (c_steps : PySem.W.codeIn K cd_steps "Rules.steps_down" = true)
    (k_steps : PySem.W.keepIn K (.ref f_steps) = true)
    (a_least : PySem.W.nsIn K mainGlobals "_least_move" = some (some (.ref f_least)))
    (l_least : K.lookup f_least = some ⟨oc_least, od_least, .func (PySem.W.fnOf "_least_move" "_least_move" (C8.fnArgs s_least) (C8.fnBody s_least) (C8.fnScope s_least) .none kV_least dc_least pm_least an_least cd_least ct_least), sl_least⟩)
    (c_least : PySem.W.codeIn K cd_least "_least_move" = true)
    (k_least : PySem.W.keepIn K (.ref f_least) = true)
    (a_ispairs : PySem.W.nsIn K mainGlobals "_is_pairs" = some (some (.ref f_ispairs)))
    (l_ispairs : K.lookup f_ispairs = some ⟨oc_ispairs, od_ispairs, .func (PySem.W.fnOf "_is_pairs" "_is_pairs" (C8.fnArgs s_ispairs) (C8.fnBody s_ispairs) (C8.fnScope s_ispairs) .none kV_ispairs dc_ispairs pm_ispairs an_ispairs cd_ispairs ct_ispairs), sl_ispairs⟩)
    (c_ispairs : PySem.W.codeIn K cd_ispairs "_is_pairs" = true)
    (k_ispairs : PySem.W.keepIn K (.ref f_ispairs) = true)
    (a_ispair : PySem.W.nsIn K mainGlobals "_is_pair" = some (some (.ref f_ispair)))
    (l_ispair : K.lookup f_ispair = some ⟨oc_ispair, od_ispair, .func (PySem.W.fnOf "_is_pair" "_is_pair" (C8.fnArgs s_ispair) (C8.fnBody s_ispair) (C8.fnScope s_ispair) .none kV_ispair dc_ispair pm_ispair an_ispair cd_ispair ct_ispair), sl_ispair⟩)
    (c_ispair : PySem.W.codeIn K cd_ispair "_is_pair" = true)
    (k_ispair : PySem.W.keepIn K (.ref f_ispair) = true)
    (a_ov : PySem.W.nsIn K mainGlobals "overlaps" = some (some (.ref f_ov)))
    (l_ov : K.lookup f_ov = some ⟨oc_ov, od_ov, .func (PySem.W.fnOf "overlaps" "overlaps" (C8.fnArgs s_ov) (C8.fnBody s_ov) (C8.fnScope s_ov) .none kV_ov dc_ov pm_ov an_ov cd_ov ct_ov), sl_ov⟩)
    (c_ov : PySem.W.codeIn K cd_ov "overlaps" = true)
    (k_ov : PySem.W.keepIn K (.ref f_ov) = true)
    (a_open : PySem.W.nsIn K mainGlobals "open_overlaps" = some (some (.ref f_open)))
    (l_open : K.lookup f_open = some ⟨oc_open, od_open, .func (PySem.W.fnOf "open_overlaps" "open_overlaps" (C8.fnArgs s_open) (C8.fnBody s_open) (C8.fnScope s_open) .none kV_open dc_open pm_open an_open cd_open ct_open), sl_open⟩)
    (c_open : PySem.W.codeIn K cd_open "open_overlaps" = true)
    (k_open : PySem.W.keepIn K (.ref f_open) = true)
    (a_compl : PySem.W.nsIn K mainGlobals "is_complete" = some (some (.ref f_compl)))
    (l_compl : K.lookup f_compl = some ⟨oc_compl, od_compl, .func (PySem.W.fnOf "is_complete" "is_complete" (C8.fnArgs s_compl) (C8.fnBody s_compl) (C8.fnScope s_compl) .none kV_compl dc_compl pm_compl an_compl cd_compl ct_compl), sl_compl⟩)
    (c_compl : PySem.W.codeIn K cd_compl "is_complete" = true)
    (k_compl : PySem.W.keepIn K (.ref f_compl) = true)
    (a_law : PySem.W.nsIn K mainGlobals "law" = some (some (.ref f_law)))
    (l_law : K.lookup f_law = some ⟨oc_law, od_law, .func (PySem.W.fnOf "law" "law" (C8.fnArgs s_law) (C8.fnBody s_law) (C8.fnScope s_law) .none kV_law dc_law pm_law an_law cd_law ct_law), sl_law⟩)
    (c_law : PySem.W.codeIn K cd_law "law" = true)
    (k_law : PySem.W.keepIn K (.ref f_law) = true)
    (z_int : PySem.W.nsIn K mainGlobals "int" = some none)
    (z_len : PySem.W.nsIn K mainGlobals "len" = some none)
    (z_abs : PySem.W.nsIn K mainGlobals "abs" = some none)
    (z_str : PySem.W.nsIn K mainGlobals "str" = some none)
    (z_list : PySem.W.nsIn K mainGlobals "list" = some none)
    (z_tuple : PySem.W.nsIn K mainGlobals "tuple" = some none)
    (z_isinstance : PySem.W.nsIn K mainGlobals "isinstance" = some none)
    (z_all : PySem.W.nsIn K mainGlobals "all" = some none)
    (z_any : PySem.W.nsIn K mainGlobals "any" = some none)
    (z_zip : PySem.W.nsIn K mainGlobals "zip" = some none)
    (z_range : PySem.W.nsIn K mainGlobals "range" = some none)
    (z_max : PySem.W.nsIn K mainGlobals "max" = some none)
    (z_min : PySem.W.nsIn K mainGlobals "min" = some none)
    (z_enumerate : PySem.W.nsIn K mainGlobals "enumerate" = some none)
    (z_repr : PySem.W.nsIn K mainGlobals "repr" = some none)
    (z_sorted : PySem.W.nsIn K mainGlobals "sorted" = some none) :
    ∃ fd : FuncData, (∀ (s : Shared) (v : Value), BindsTo s fd ⟨[v], []⟩ [("script", v)]) ∧ ∀ base : Heap, K.In base → base.Ns mainGlobals mg → FnG l.prog w K mg base 8 fa fd ["script"] (spLaw K) := by
  have e := hfa.symm.trans (PySem.W.mg_of X G a_law)
  cases e
  have T : BT mg := ⟨PySem.W.mg_none_of X G z_int, PySem.W.mg_none_of X G z_len, PySem.W.mg_none_of X G z_abs, PySem.W.mg_none_of X G z_str, PySem.W.mg_none_of X G z_list, PySem.W.mg_none_of X G z_tuple, PySem.W.mg_none_of X G z_isinstance, PySem.W.mg_none_of X G z_all, PySem.W.mg_none_of X G z_any, PySem.W.mg_none_of X G z_zip, PySem.W.mg_none_of X G z_range, PySem.W.mg_none_of X G z_max, PySem.W.mg_none_of X G z_min, PySem.W.mg_none_of X G z_enumerate, PySem.W.mg_none_of X G z_repr, PySem.W.mg_none_of X G z_sorted⟩
  have mg_az := PySem.W.mg_of X G q_az
  have U_box : C8.Fun K "_law_box" "_law_box" s_box f_box (PySem.W.fnOf "_law_box" "_law_box" (C8.fnArgs s_box) (C8.fnBody s_box) (C8.fnScope s_box) .none kV_box dc_box pm_box an_box cd_box ct_box) := ⟨oc_box, od_box, .none, kV_box, dc_box, pm_box, an_box, cd_box, ct_box, sl_box, rfl, l_box, c_box⟩
  have F_box : C8.Def K mg "_law_box" s_box f_box _ := ⟨U_box, PySem.W.mg_of X G a_box, k_box⟩
  have b_box := U_box.binds rfl (ps := ["script", "k"]) fun _ _ _ _ _ _ us hl => match us, hl with | [_, _], _ => rfl
  have U_take : C8.Fun K "_law_take" "_law_take" s_take f_take (PySem.W.fnOf "_law_take" "_law_take" (C8.fnArgs s_take) (C8.fnBody s_take) (C8.fnScope s_take) .none kV_take dc_take pm_take an_take cd_take ct_take) := ⟨oc_take, od_take, .none, kV_take, dc_take, pm_take, an_take, cd_take, ct_take, sl_take, rfl, l_take, c_take⟩
  have F_take : C8.Def K mg "_law_take" s_take f_take _ := ⟨U_take, PySem.W.mg_of X G a_take, k_take⟩
  have b_take := U_take.binds rfl (ps := ["box", "many"]) fun _ _ _ _ _ _ us hl => match us, hl with | [_, _], _ => rfl
  have U_pick : C8.Fun K "_law_pick" "_law_pick" s_pick f_pick (PySem.W.fnOf "_law_pick" "_law_pick" (C8.fnArgs s_pick) (C8.fnBody s_pick) (C8.fnScope s_pick) .none kV_pick dc_pick pm_pick an_pick cd_pick ct_pick) := ⟨oc_pick, od_pick, .none, kV_pick, dc_pick, pm_pick, an_pick, cd_pick, ct_pick, sl_pick, rfl, l_pick, c_pick⟩
  have F_pick : C8.Def K mg "_law_pick" s_pick f_pick _ := ⟨U_pick, PySem.W.mg_of X G a_pick, k_pick⟩
  have b_pick := U_pick.binds rfl (ps := ["box", "some"]) fun _ _ _ _ _ _ us hl => match us, hl with | [_, _], _ => rfl
  have U_rank : C8.Fun K "_law_rank" "_law_rank" s_rank f_rank (PySem.W.fnOf "_law_rank" "_law_rank" (C8.fnArgs s_rank) (C8.fnBody s_rank) (C8.fnScope s_rank) .none kV_rank dc_rank pm_rank an_rank cd_rank ct_rank) := ⟨oc_rank, od_rank, .none, kV_rank, dc_rank, pm_rank, an_rank, cd_rank, ct_rank, sl_rank, rfl, l_rank, c_rank⟩
  have F_rank : C8.Def K mg "_law_rank" s_rank f_rank _ := ⟨U_rank, PySem.W.mg_of X G a_rank, k_rank⟩
  have b_rank := U_rank.binds rfl (ps := ["row"]) fun _ _ _ _ _ _ us hl => match us, hl with | [_], _ => rfl
  have U_signs : C8.Fun K "_law_signs" "_law_signs" s_signs f_signs (PySem.W.fnOf "_law_signs" "_law_signs" (C8.fnArgs s_signs) (C8.fnBody s_signs) (C8.fnScope s_signs) .none kV_signs dc_signs pm_signs an_signs cd_signs ct_signs) := ⟨oc_signs, od_signs, .none, kV_signs, dc_signs, pm_signs, an_signs, cd_signs, ct_signs, sl_signs, rfl, l_signs, c_signs⟩
  have F_signs : C8.Def K mg "_law_signs" s_signs f_signs _ := ⟨U_signs, PySem.W.mg_of X G a_signs, k_signs⟩
  have b_signs := U_signs.binds rfl (ps := ["box"]) fun _ _ _ _ _ _ us hl => match us, hl with | [_], _ => rfl
  have U_row : C8.Fun K "_law_row" "_law_row" s_row f_row (PySem.W.fnOf "_law_row" "_law_row" (C8.fnArgs s_row) (C8.fnBody s_row) (C8.fnScope s_row) .none kV_row dc_row pm_row an_row cd_row ct_row) := ⟨oc_row, od_row, .none, kV_row, dc_row, pm_row, an_row, cd_row, ct_row, sl_row, rfl, l_row, c_row⟩
  have F_row : C8.Def K mg "_law_row" s_row f_row _ := ⟨U_row, PySem.W.mg_of X G a_row, k_row⟩
  have b_row := U_row.binds rfl (ps := ["box", "signs", "long"]) fun _ _ _ _ _ _ us hl => match us, hl with | [_, _, _], _ => rfl
  have U_pairs : C8.Fun K "_law_pairs" "_law_pairs" s_pairs f_pairs (PySem.W.fnOf "_law_pairs" "_law_pairs" (C8.fnArgs s_pairs) (C8.fnBody s_pairs) (C8.fnScope s_pairs) .none kV_pairs dc_pairs pm_pairs an_pairs cd_pairs ct_pairs) := ⟨oc_pairs, od_pairs, .none, kV_pairs, dc_pairs, pm_pairs, an_pairs, cd_pairs, ct_pairs, sl_pairs, rfl, l_pairs, c_pairs⟩
  have F_pairs : C8.Def K mg "_law_pairs" s_pairs f_pairs _ := ⟨U_pairs, PySem.W.mg_of X G a_pairs, k_pairs⟩
  have b_pairs := U_pairs.binds rfl (ps := ["box", "signs", "many"]) fun _ _ _ _ _ _ us hl => match us, hl with | [_, _, _], _ => rfl
  have U_lmoves : C8.Fun K "_law_moves" "_law_moves" s_lmoves f_lmoves (PySem.W.fnOf "_law_moves" "_law_moves" (C8.fnArgs s_lmoves) (C8.fnBody s_lmoves) (C8.fnScope s_lmoves) .none kV_lmoves dc_lmoves pm_lmoves an_lmoves cd_lmoves ct_lmoves) := ⟨oc_lmoves, od_lmoves, .none, kV_lmoves, dc_lmoves, pm_lmoves, an_lmoves, cd_lmoves, ct_lmoves, sl_lmoves, rfl, l_lmoves, c_lmoves⟩
  have F_lmoves : C8.Def K mg "_law_moves" s_lmoves f_lmoves _ := ⟨U_lmoves, PySem.W.mg_of X G a_lmoves, k_lmoves⟩
  have b_lmoves := U_lmoves.binds rfl (ps := ["pairs", "row"]) fun _ _ _ _ _ _ us hl => match us, hl with | [_, _], _ => rfl
  have U_lafter : C8.Fun K "_law_after" "_law_after" s_lafter f_lafter (PySem.W.fnOf "_law_after" "_law_after" (C8.fnArgs s_lafter) (C8.fnBody s_lafter) (C8.fnScope s_lafter) .none kV_lafter dc_lafter pm_lafter an_lafter cd_lafter ct_lafter) := ⟨oc_lafter, od_lafter, .none, kV_lafter, dc_lafter, pm_lafter, an_lafter, cd_lafter, ct_lafter, sl_lafter, rfl, l_lafter, c_lafter⟩
  have F_lafter : C8.Def K mg "_law_after" s_lafter f_lafter _ := ⟨U_lafter, PySem.W.mg_of X G a_lafter, k_lafter⟩
  have b_lafter := U_lafter.binds rfl (ps := ["pairs", "row", "move"]) fun _ _ _ _ _ _ us hl => match us, hl with | [_, _, _], _ => rfl
  have U_lroad : C8.Fun K "_law_road" "_law_road" s_lroad f_lroad (PySem.W.fnOf "_law_road" "_law_road" (C8.fnArgs s_lroad) (C8.fnBody s_lroad) (C8.fnScope s_lroad) .none kV_lroad dc_lroad pm_lroad an_lroad cd_lroad ct_lroad) := ⟨oc_lroad, od_lroad, .none, kV_lroad, dc_lroad, pm_lroad, an_lroad, cd_lroad, ct_lroad, sl_lroad, rfl, l_lroad, c_lroad⟩
  have F_lroad : C8.Def K mg "_law_road" s_lroad f_lroad _ := ⟨U_lroad, PySem.W.mg_of X G a_lroad, k_lroad⟩
  have b_lroad := U_lroad.binds rfl (ps := ["pairs", "row"]) fun _ _ _ _ _ _ us hl => match us, hl with | [_, _], _ => rfl
  have U_lov : C8.Fun K "_law_overlaps" "_law_overlaps" s_lov f_lov (PySem.W.fnOf "_law_overlaps" "_law_overlaps" (C8.fnArgs s_lov) (C8.fnBody s_lov) (C8.fnScope s_lov) .none kV_lov dc_lov pm_lov an_lov cd_lov ct_lov) := ⟨oc_lov, od_lov, .none, kV_lov, dc_lov, pm_lov, an_lov, cd_lov, ct_lov, sl_lov, rfl, l_lov, c_lov⟩
  have F_lov : C8.Def K mg "_law_overlaps" s_lov f_lov _ := ⟨U_lov, PySem.W.mg_of X G a_lov, k_lov⟩
  have b_lov := U_lov.binds rfl (ps := ["pairs"]) fun _ _ _ _ _ _ us hl => match us, hl with | [_], _ => rfl
  have U_any : C8.Fun K "_law_any_road" "_law_any_road" s_any f_any (PySem.W.fnOf "_law_any_road" "_law_any_road" (C8.fnArgs s_any) (C8.fnBody s_any) (C8.fnScope s_any) .none kV_any dc_any pm_any an_any cd_any ct_any) := ⟨oc_any, od_any, .none, kV_any, dc_any, pm_any, an_any, cd_any, ct_any, sl_any, rfl, l_any, c_any⟩
  have F_any : C8.Def K mg "_law_any_road" s_any f_any _ := ⟨U_any, PySem.W.mg_of X G a_any, k_any⟩
  have b_any := U_any.binds rfl (ps := ["box", "pairs", "row"]) fun _ _ _ _ _ _ us hl => match us, hl with | [_, _, _], _ => rfl
  have U_isseq : C8.Fun K "is_sequence" "is_sequence" s_isseq f_isseq (PySem.W.fnOf "is_sequence" "is_sequence" (C8.fnArgs s_isseq) (C8.fnBody s_isseq) (C8.fnScope s_isseq) .none kV_isseq dc_isseq pm_isseq an_isseq cd_isseq ct_isseq) := ⟨oc_isseq, od_isseq, .none, kV_isseq, dc_isseq, pm_isseq, an_isseq, cd_isseq, ct_isseq, sl_isseq, rfl, l_isseq, c_isseq⟩
  have F_isseq : C8.Def K mg "is_sequence" s_isseq f_isseq _ := ⟨U_isseq, PySem.W.mg_of X G a_isseq, k_isseq⟩
  have b_isseq := U_isseq.binds rfl (ps := ["value"]) fun _ _ _ _ _ _ us hl => match us, hl with | [_], _ => rfl
  have U_tupof : C8.Fun K "is_tuple_of" "is_tuple_of" s_tupof f_tupof (PySem.W.fnOf "is_tuple_of" "is_tuple_of" (C8.fnArgs s_tupof) (C8.fnBody s_tupof) (C8.fnScope s_tupof) .none kV_tupof dc_tupof pm_tupof an_tupof cd_tupof ct_tupof) := ⟨oc_tupof, od_tupof, .none, kV_tupof, dc_tupof, pm_tupof, an_tupof, cd_tupof, ct_tupof, sl_tupof, rfl, l_tupof, c_tupof⟩
  have F_tupof : C8.Def K mg "is_tuple_of" s_tupof f_tupof _ := ⟨U_tupof, PySem.W.mg_of X G a_tupof, k_tupof⟩
  have b_tupof := U_tupof.binds rfl (ps := ["value", "many"]) fun _ _ _ _ _ _ us hl => match us, hl with | [_, _], _ => rfl
  have U_isletters : C8.Fun K "is_letters" "is_letters" s_isletters f_isletters (PySem.W.fnOf "is_letters" "is_letters" (C8.fnArgs s_isletters) (C8.fnBody s_isletters) (C8.fnScope s_isletters) .none kV_isletters dc_isletters pm_isletters an_isletters cd_isletters ct_isletters) := ⟨oc_isletters, od_isletters, .none, kV_isletters, dc_isletters, pm_isletters, an_isletters, cd_isletters, ct_isletters, sl_isletters, rfl, l_isletters, c_isletters⟩
  have F_isletters : C8.Def K mg "is_letters" s_isletters f_isletters _ := ⟨U_isletters, PySem.W.mg_of X G a_isletters, k_isletters⟩
  have b_isletters := U_isletters.binds rfl (ps := ["value"]) fun _ _ _ _ _ _ us hl => match us, hl with | [_], _ => rfl
  have U_issigns : C8.Fun K "is_signs" "is_signs" s_issigns f_issigns (PySem.W.fnOf "is_signs" "is_signs" (C8.fnArgs s_issigns) (C8.fnBody s_issigns) (C8.fnScope s_issigns) .none kV_issigns dc_issigns pm_issigns an_issigns cd_issigns ct_issigns) := ⟨oc_issigns, od_issigns, .none, kV_issigns, dc_issigns, pm_issigns, an_issigns, cd_issigns, ct_issigns, sl_issigns, rfl, l_issigns, c_issigns⟩
  have F_issigns : C8.Def K mg "is_signs" s_issigns f_issigns _ := ⟨U_issigns, PySem.W.mg_of X G a_issigns, k_issigns⟩
  have b_issigns := U_issigns.binds rfl (ps := ["value"]) fun _ _ _ _ _ _ us hl => match us, hl with | [_], _ => rfl
  have U_isrow : C8.Fun K "is_row" "is_row" s_isrow f_isrow (PySem.W.fnOf "is_row" "is_row" (C8.fnArgs s_isrow) (C8.fnBody s_isrow) (C8.fnScope s_isrow) .none kV_isrow dc_isrow pm_isrow an_isrow cd_isrow ct_isrow) := ⟨oc_isrow, od_isrow, .none, kV_isrow, dc_isrow, pm_isrow, an_isrow, cd_isrow, ct_isrow, sl_isrow, rfl, l_isrow, c_isrow⟩
  have F_isrow : C8.Def K mg "is_row" s_isrow f_isrow _ := ⟨U_isrow, PySem.W.mg_of X G a_isrow, k_isrow⟩
  have b_isrow := U_isrow.binds rfl (ps := ["value", "signs"]) fun _ _ _ _ _ _ us hl => match us, hl with | [_, _], _ => rfl
  have U_order : C8.Fun K "row_order" "row_order" s_order f_order (PySem.W.fnOf "row_order" "row_order" (C8.fnArgs s_order) (C8.fnBody s_order) (C8.fnScope s_order) .none kV_order dc_order pm_order an_order cd_order ct_order) := ⟨oc_order, od_order, .none, kV_order, dc_order, pm_order, an_order, cd_order, ct_order, sl_order, rfl, l_order, c_order⟩
  have F_order : C8.Def K mg "row_order" s_order f_order _ := ⟨U_order, PySem.W.mg_of X G a_order, k_order⟩
  have b_order := U_order.binds rfl (ps := ["row"]) fun _ _ _ _ _ _ us hl => match us, hl with | [_], _ => rfl
  have U_xir : C8.Fun K "__init__" "InvalidRules.__init__" s_xir f_xir (PySem.W.fnOf "__init__" "InvalidRules.__init__" (C8.fnArgs s_xir) (C8.fnBody s_xir) (C8.fnScope s_xir) .none kV_xir dc_xir pm_xir an_xir cd_xir ct_xir) := ⟨oc_xir, od_xir, .none, kV_xir, dc_xir, pm_xir, an_xir, cd_xir, ct_xir, sl_xir, rfl, l_xir, c_xir⟩
  have me_xir : Meth K C_InvalidRules "__init__" f_xir := ⟨a_xir, i_xir, k_xir⟩
  have b_xir := U_xir.binds rfl (ps := ["self", "word"]) fun _ _ _ _ _ _ us hl => match us, hl with | [_, _], _ => rfl
  have U_init : C8.Fun K "__init__" "Rules.__init__" s_init f_init (PySem.W.fnOf "__init__" "Rules.__init__" (C8.fnArgs s_init) (C8.fnBody s_init) (C8.fnScope s_init) .none kV_init dc_init pm_init an_init cd_init ct_init) := ⟨oc_init, od_init, .none, kV_init, dc_init, pm_init, an_init, cd_init, ct_init, sl_init, rfl, l_init, c_init⟩
  have me_init : Meth K C_Rules "__init__" f_init := ⟨a_init, i_init, k_init⟩
  have b_init := U_init.binds rfl (ps := ["self", "signs", "pairs"]) fun _ _ _ _ _ _ us hl => match us, hl with | [_, _, _], _ => rfl
  have U_moves : C8.Fun K "moves" "Rules.moves" s_moves f_moves (PySem.W.fnOf "moves" "Rules.moves" (C8.fnArgs s_moves) (C8.fnBody s_moves) (C8.fnScope s_moves) .none kV_moves dc_moves pm_moves an_moves cd_moves ct_moves) := ⟨oc_moves, od_moves, .none, kV_moves, dc_moves, pm_moves, an_moves, cd_moves, ct_moves, sl_moves, rfl, l_moves, c_moves⟩
  have me_moves : Meth K C_Rules "moves" f_moves := ⟨a_moves, i_moves, k_moves⟩
  have b_moves := U_moves.binds rfl (ps := ["self", "row"]) fun _ _ _ _ _ _ us hl => match us, hl with | [_, _], _ => rfl
  have U_after : C8.Fun K "after" "Rules.after" s_after f_after (PySem.W.fnOf "after" "Rules.after" (C8.fnArgs s_after) (C8.fnBody s_after) (C8.fnScope s_after) .none kV_after dc_after pm_after an_after cd_after ct_after) := ⟨oc_after, od_after, .none, kV_after, dc_after, pm_after, an_after, cd_after, ct_after, sl_after, rfl, l_after, c_after⟩
  have me_after : Meth K C_Rules "after" f_after := ⟨a_after, i_after, k_after⟩
  have b_after := U_after.binds rfl (ps := ["self", "row", "move"]) fun _ _ _ _ _ _ us hl => match us, hl with | [_, _, _], _ => rfl
  have U_reduced : C8.Fun K "reduced" "Rules.reduced" s_reduced f_reduced (PySem.W.fnOf "reduced" "Rules.reduced" (C8.fnArgs s_reduced) (C8.fnBody s_reduced) (C8.fnScope s_reduced) .none kV_reduced dc_reduced pm_reduced an_reduced cd_reduced ct_reduced) := ⟨oc_reduced, od_reduced, .none, kV_reduced, dc_reduced, pm_reduced, an_reduced, cd_reduced, ct_reduced, sl_reduced, rfl, l_reduced, c_reduced⟩
  have me_reduced : Meth K C_Rules "reduced" f_reduced := ⟨a_reduced, i_reduced, k_reduced⟩
  have b_reduced := U_reduced.binds rfl (ps := ["self", "row"]) fun _ _ _ _ _ _ us hl => match us, hl with | [_, _], _ => rfl
  have U_steps : C8.Fun K "steps_down" "Rules.steps_down" s_steps f_steps (PySem.W.fnOf "steps_down" "Rules.steps_down" (C8.fnArgs s_steps) (C8.fnBody s_steps) (C8.fnScope s_steps) .none kV_steps dc_steps pm_steps an_steps cd_steps ct_steps) := ⟨oc_steps, od_steps, .none, kV_steps, dc_steps, pm_steps, an_steps, cd_steps, ct_steps, sl_steps, rfl, l_steps, c_steps⟩
  have me_steps : Meth K C_Rules "steps_down" f_steps := ⟨a_steps, i_steps, k_steps⟩
  have b_steps := U_steps.binds rfl (ps := ["self", "row"]) fun _ _ _ _ _ _ us hl => match us, hl with | [_, _], _ => rfl
  have U_least : C8.Fun K "_least_move" "_least_move" s_least f_least (PySem.W.fnOf "_least_move" "_least_move" (C8.fnArgs s_least) (C8.fnBody s_least) (C8.fnScope s_least) .none kV_least dc_least pm_least an_least cd_least ct_least) := ⟨oc_least, od_least, .none, kV_least, dc_least, pm_least, an_least, cd_least, ct_least, sl_least, rfl, l_least, c_least⟩
  have F_least : C8.Def K mg "_least_move" s_least f_least _ := ⟨U_least, PySem.W.mg_of X G a_least, k_least⟩
  have b_least := U_least.binds rfl (ps := ["rules", "row", "begin"]) fun _ _ _ _ _ _ us hl => match us, hl with | [_, _, _], _ => rfl
  have U_ispairs : C8.Fun K "_is_pairs" "_is_pairs" s_ispairs f_ispairs (PySem.W.fnOf "_is_pairs" "_is_pairs" (C8.fnArgs s_ispairs) (C8.fnBody s_ispairs) (C8.fnScope s_ispairs) .none kV_ispairs dc_ispairs pm_ispairs an_ispairs cd_ispairs ct_ispairs) := ⟨oc_ispairs, od_ispairs, .none, kV_ispairs, dc_ispairs, pm_ispairs, an_ispairs, cd_ispairs, ct_ispairs, sl_ispairs, rfl, l_ispairs, c_ispairs⟩
  have F_ispairs : C8.Def K mg "_is_pairs" s_ispairs f_ispairs _ := ⟨U_ispairs, PySem.W.mg_of X G a_ispairs, k_ispairs⟩
  have b_ispairs := U_ispairs.binds rfl (ps := ["value", "signs"]) fun _ _ _ _ _ _ us hl => match us, hl with | [_, _], _ => rfl
  have U_ispair : C8.Fun K "_is_pair" "_is_pair" s_ispair f_ispair (PySem.W.fnOf "_is_pair" "_is_pair" (C8.fnArgs s_ispair) (C8.fnBody s_ispair) (C8.fnScope s_ispair) .none kV_ispair dc_ispair pm_ispair an_ispair cd_ispair ct_ispair) := ⟨oc_ispair, od_ispair, .none, kV_ispair, dc_ispair, pm_ispair, an_ispair, cd_ispair, ct_ispair, sl_ispair, rfl, l_ispair, c_ispair⟩
  have F_ispair : C8.Def K mg "_is_pair" s_ispair f_ispair _ := ⟨U_ispair, PySem.W.mg_of X G a_ispair, k_ispair⟩
  have b_ispair := U_ispair.binds rfl (ps := ["value", "signs"]) fun _ _ _ _ _ _ us hl => match us, hl with | [_, _], _ => rfl
  have U_ov : C8.Fun K "overlaps" "overlaps" s_ov f_ov (PySem.W.fnOf "overlaps" "overlaps" (C8.fnArgs s_ov) (C8.fnBody s_ov) (C8.fnScope s_ov) .none kV_ov dc_ov pm_ov an_ov cd_ov ct_ov) := ⟨oc_ov, od_ov, .none, kV_ov, dc_ov, pm_ov, an_ov, cd_ov, ct_ov, sl_ov, rfl, l_ov, c_ov⟩
  have F_ov : C8.Def K mg "overlaps" s_ov f_ov _ := ⟨U_ov, PySem.W.mg_of X G a_ov, k_ov⟩
  have b_ov := U_ov.binds rfl (ps := ["rules"]) fun _ _ _ _ _ _ us hl => match us, hl with | [_], _ => rfl
  have U_open : C8.Fun K "open_overlaps" "open_overlaps" s_open f_open (PySem.W.fnOf "open_overlaps" "open_overlaps" (C8.fnArgs s_open) (C8.fnBody s_open) (C8.fnScope s_open) .none kV_open dc_open pm_open an_open cd_open ct_open) := ⟨oc_open, od_open, .none, kV_open, dc_open, pm_open, an_open, cd_open, ct_open, sl_open, rfl, l_open, c_open⟩
  have F_open : C8.Def K mg "open_overlaps" s_open f_open _ := ⟨U_open, PySem.W.mg_of X G a_open, k_open⟩
  have b_open := U_open.binds rfl (ps := ["rules"]) fun _ _ _ _ _ _ us hl => match us, hl with | [_], _ => rfl
  have U_compl : C8.Fun K "is_complete" "is_complete" s_compl f_compl (PySem.W.fnOf "is_complete" "is_complete" (C8.fnArgs s_compl) (C8.fnBody s_compl) (C8.fnScope s_compl) .none kV_compl dc_compl pm_compl an_compl cd_compl ct_compl) := ⟨oc_compl, od_compl, .none, kV_compl, dc_compl, pm_compl, an_compl, cd_compl, ct_compl, sl_compl, rfl, l_compl, c_compl⟩
  have F_compl : C8.Def K mg "is_complete" s_compl f_compl _ := ⟨U_compl, PySem.W.mg_of X G a_compl, k_compl⟩
  have b_compl := U_compl.binds rfl (ps := ["rules"]) fun _ _ _ _ _ _ us hl => match us, hl with | [_], _ => rfl
  have U_law : C8.Fun K "law" "law" s_law fa (PySem.W.fnOf "law" "law" (C8.fnArgs s_law) (C8.fnBody s_law) (C8.fnScope s_law) .none kV_law dc_law pm_law an_law cd_law ct_law) := ⟨oc_law, od_law, .none, kV_law, dc_law, pm_law, an_law, cd_law, ct_law, sl_law, rfl, l_law, c_law⟩
  have F_law : C8.Def K mg "law" s_law fa _ := ⟨U_law, PySem.W.mg_of X G a_law, k_law⟩
  have b_law := U_law.binds rfl (ps := ["script"]) fun _ _ _ _ _ _ us hl => match us, hl with | [_], _ => rfl
  have Cl_Rules : Cls K C_Rules := ⟨pg_Rules, hd_Rules, po_Rules, sa_Rules⟩
  have mg_Rules := PySem.W.mg_of X G g_Rules
  have M_Rules : Mk K C_Rules f_init := ⟨mk_Rules, a_init, i_init, kc_Rules⟩
  refine ⟨PySem.W.fnOf "law" "law" (C8.fnArgs s_law) (C8.fnBody s_law) (C8.fnScope s_law) .none kV_law dc_law pm_law an_law cd_law ct_law, fun s v => .of_eq rfl, fun base _ _ => ?_⟩
  have CH : CC K C_Rules := ⟨Cl_Rules, n_Rules_signs, n_Rules_pairs⟩
  have c_take := ok_take (P := l.prog) (w := w) (base := base) T F_take b_take
  have c_pick := ok_pick T c_take F_pick b_pick
  have c_signs := ok_signs T c_pick F_signs b_signs
  have c_row := ok_row T c_take c_pick F_row b_row
  have c_box := ok_box (P := l.prog) (w := w) (base := base) T F_box b_box
  have c_isseq := ok_isseqD (P := l.prog) (w := w) (base := base) T F_isseq b_isseq
  have c_isrow := ok_isrowD (P := l.prog) (w := w) (base := base) T F_isrow b_isrow
  have c_isletters := ok_islettersD T mg_az c_isrow F_isletters b_isletters
  have c_issigns := ok_issignsD T c_isletters F_issigns b_issigns
  have x_IR : XQ K mg "InvalidRules" C_InvalidRules := ⟨xc_InvalidRules, PySem.W.mg_of X G xg_InvalidRules⟩
  have c_IR := ok_xir (P := l.prog) (w := w) (base := base) x_IR xf_InvalidRules a_xir (beq_iff_eq.mp i_xir) U_xir b_xir
  have c_tupof := ok_tupof (P := l.prog) (w := w) (base := base) T F_tupof b_tupof
  have c_order := ok_order (P := l.prog) (w := w) (base := base) T F_order b_order
  have c_ispair := ok_ispair T c_tupof c_isrow c_order F_ispair b_ispair
  have c_ispairs := ok_ispairs T c_isseq c_ispair F_ispairs b_ispairs
  have c_Rules := ok_makeR T CH c_IR c_issigns c_ispairs M_Rules mg_Rules U_init b_init
  have c_after := ok_after (P := l.prog) (w := w) (base := base) T CH me_after U_after b_after
  have c_least := ok_least (P := l.prog) (w := w) (base := base) T CH F_least b_least
  have c_steps := ok_steps T CH c_after c_least me_steps U_steps b_steps
  have c_reduced := ok_reduced T CH c_steps me_reduced U_reduced b_reduced
  have c_rank := ok_rank (P := l.prog) (w := w) (base := base) T F_rank b_rank
  have c_lafter := ok_lafter (P := l.prog) (w := w) (base := base) T F_lafter b_lafter
  have c_lmoves := ok_lmoves (P := l.prog) (w := w) (base := base) T F_lmoves b_lmoves
  have c_lroad := ok_lroad T c_lmoves c_lafter F_lroad b_lroad
  have c_pairs := ok_pairs T c_row c_pick c_rank F_pairs b_pairs
  have c_moves := ok_moves (P := l.prog) (w := w) (base := base) T CH me_moves U_moves b_moves
  have c_ov := ok_ov (P := l.prog) (w := w) (base := base) T CH F_order.mgf (fn_order2 T F_order) b_order F_ov b_ov
  have ck_ov : CalK l.prog w K mg base 4 "overlaps" ["rules"] revV (spOv K C_Rules) := ⟨⟨f_ov, _, _, revL, fn_ov T CH F_order.mgf (fn_order2 T F_order) b_order F_ov, F_ov.mgf, F_ov.kp, ⟨fun s us ws X l1 l2 => match us, ws, l1, l2 with | [], [_], _, _ => .of_eq rfl, fun r1 r2 => rev_rel r1 r2⟩⟩⟩
  have c_open : Cal l.prog w K mg base 5 "open_overlaps" (spOpen K C_Rules) [] := ⟨⟨f_open, _, _, [], fn_open T CH c_ov c_reduced F_open, F_open.mgf, F_open.kp, b_open, .nil⟩⟩
  have ck_open : CalK l.prog w K mg base 5 "open_overlaps" ["rules"] revV (spOpen K C_Rules) := ⟨⟨f_open, _, _, revL, fn_open T CH c_ov c_reduced F_open, F_open.mgf, F_open.kp, ⟨fun s us ws X l1 l2 => match us, ws, l1, l2 with | [], [_], _, _ => .of_eq rfl, fun r1 r2 => rev_rel r1 r2⟩⟩⟩
  have ck_compl : CalK l.prog w K mg base 6 "is_complete" ["rules"] revV (spCompl K C_Rules) := ⟨⟨f_compl, _, _, revL, fn_compl T CH c_open F_compl, F_compl.mgf, F_compl.kp, ⟨fun s us ws X l1 l2 => match us, ws, l1, l2 with | [], [_], _, _ => .of_eq rfl, fun r1 r2 => rev_rel r1 r2⟩⟩⟩
  have c_lov := ok_lov (P := l.prog) (w := w) (base := base) T F_rank.mgf (fn_rank2 T F_rank) b_rank F_lov b_lov
  have c_any := ok_any T c_pick c_lmoves c_lafter F_any b_any
  exact ok_law T CH c_box c_take c_signs c_pairs c_row c_lroad c_Rules c_reduced c_moves c_after c_ov ck_ov ck_open ck_compl c_lov c_any F_law
theorem walk {l : PySem.W.OpenLaw} {q : Program} {loose : List Str} {XP : (Str → Option Value) → Heap → Prop} {YP : World → Heap → Prop} {d : DefRec} {K : Params → PySem.W.Frag} (hn : l.most = some 63) (hdf : d.params.defaults = [])
    (hY : ∀ (w : World) (h : Heap), YP w h → (K w.params).In h)
    (F : ∀ (w : World) (mg : Str → Option Value) (fa : Addr) (h : Heap), (K w.params).In h → h.Ns mainGlobals mg → mg d.name = some (.ref fa) →
      ∃ fd : FuncData, (∀ (s : Shared) (u : Value), BindsTo s fd ⟨[u], []⟩ [("script", u)]) ∧ ∀ base : Heap, (K w.params).In base → base.Ns mainGlobals mg → FnG l.prog w (K w.params) mg base 8 fa fd ["script"] (spLaw (K w.params))) :
    PySem.W.WalkO q loose XP YP l.row.toRowW d [] (fun f vs => PySem.call f vs) :=
  walkG (n := 63) (k := 8) (x := "script") (sp := fun K => spLaw K) hn (by decide) hdf ⟨rfl, by decide, by decide⟩ hY F fun _ _ a ns hl _ hS => ⟨a, ns, rfl, hS, hl, fun _ => rfl⟩
end Toy
open PySem PySem.W PyProof.Rows in
set_option maxRecDepth 100000 in
set_option maxHeartbeats 0 in
theorem PySem.Challenge.cw_allrows_k61_overlaps_open_or_not_holds : PySem.Challenge.rw_allrows_k61_overlaps_open_or_not.Holds := by
  w_on; o_law; k_head; (case hw => w_witness2)
  k_fill
  refine Toy.walk (l := PySem.Challenge.rw_allrows_k61_overlaps_open_or_not) rfl rfl (fun w h Y => PySem.W.kIn_of Y) ?F
  case F =>
    intro w mg fa h KX G hmg
    refine' Toy.all_mk KX G hmg ?q_az ?g_Rules ?pg_Rules ?hd_Rules ?po_Rules ?sa_Rules ?kc_Rules ?n_Rules_signs ?n_Rules_pairs ?mk_Rules ?xg_InvalidRules ?xc_InvalidRules ?xf_InvalidRules ?a_box ?l_box ?c_box ?k_box ?a_take ?l_take ?c_take ?k_take ?a_pick ?l_pick ?c_pick ?k_pick ?a_rank ?l_rank ?c_rank ?k_rank ?a_signs ?l_signs ?c_signs ?k_signs ?a_row ?l_row ?c_row ?k_row ?a_pairs ?l_pairs ?c_pairs ?k_pairs ?a_lmoves ?l_lmoves ?c_lmoves ?k_lmoves ?a_lafter ?l_lafter ?c_lafter ?k_lafter ?a_lroad ?l_lroad ?c_lroad ?k_lroad ?a_lov ?l_lov ?c_lov ?k_lov ?a_any ?l_any ?c_any ?k_any ?a_isseq ?l_isseq ?c_isseq ?k_isseq ?a_tupof ?l_tupof ?c_tupof ?k_tupof ?a_isletters ?l_isletters ?c_isletters ?k_isletters ?a_issigns ?l_issigns ?c_issigns ?k_issigns ?a_isrow ?l_isrow ?c_isrow ?k_isrow ?a_order ?l_order ?c_order ?k_order ?a_xir ?i_xir ?l_xir ?c_xir ?k_xir ?a_init ?i_init ?l_init ?c_init ?k_init ?a_moves ?i_moves ?l_moves ?c_moves ?k_moves ?a_after ?i_after ?l_after ?c_after ?k_after ?a_reduced ?i_reduced ?l_reduced ?c_reduced ?k_reduced ?a_steps ?i_steps ?l_steps ?c_steps ?k_steps ?a_least ?l_least ?c_least ?k_least ?a_ispairs ?l_ispairs ?c_ispairs ?k_ispairs ?a_ispair ?l_ispair ?c_ispair ?k_ispair ?a_ov ?l_ov ?c_ov ?k_ov ?a_open ?l_open ?c_open ?k_open ?a_compl ?l_compl ?c_compl ?k_compl ?a_law ?l_law ?c_law ?k_law ?z_int ?z_len ?z_abs ?z_str ?z_list ?z_tuple ?z_isinstance ?z_all ?z_any ?z_zip ?z_range ?z_max ?z_min ?z_enumerate ?z_repr ?z_sorted
    (case q_az => k_is)
    (case g_Rules => k_is)
    (case pg_Rules => k_is)
    (case hd_Rules => k_is)
    (case po_Rules => k_is)
    (case sa_Rules => k_is)
    (case kc_Rules => k_is)
    (case n_Rules_signs => k_is)
    (case n_Rules_pairs => k_is)
    (case mk_Rules => k_is)
    (case xg_InvalidRules => k_is)
    (case xc_InvalidRules => exact LX.XC.ve (by show PySem.W.excInitIn _ _ [.type "ValueError", .type "Exception", .type "BaseException", .type "object"] "ValueError.__new__" = true; kx_is) (by k_is) (by k_is) (by k_is) (by k_is) (by k_is) (by k_is) (by k_is) (by k_is) (by k_is) (by k_is) (by k_is))
    (case xf_InvalidRules => k_is)
    (case a_box => k_is)
    (case l_box => k_is)
    (case c_box => k_is)
    (case k_box => k_is)
    (case a_take => k_is)
    (case l_take => k_is)
    (case c_take => k_is)
    (case k_take => k_is)
    (case a_pick => k_is)
    (case l_pick => k_is)
    (case c_pick => k_is)
    (case k_pick => k_is)
    (case a_rank => k_is)
    (case l_rank => k_is)
    (case c_rank => k_is)
    (case k_rank => k_is)
    (case a_signs => k_is)
    (case l_signs => k_is)
    (case c_signs => k_is)
    (case k_signs => k_is)
    (case a_row => k_is)
    (case l_row => k_is)
    (case c_row => k_is)
    (case k_row => k_is)
    (case a_pairs => k_is)
    (case l_pairs => k_is)
    (case c_pairs => k_is)
    (case k_pairs => k_is)
    (case a_lmoves => k_is)
    (case l_lmoves => k_is)
    (case c_lmoves => k_is)
    (case k_lmoves => k_is)
    (case a_lafter => k_is)
    (case l_lafter => k_is)
    (case c_lafter => k_is)
    (case k_lafter => k_is)
    (case a_lroad => k_is)
    (case l_lroad => k_is)
    (case c_lroad => k_is)
    (case k_lroad => k_is)
    (case a_lov => k_is)
    (case l_lov => k_is)
    (case c_lov => k_is)
    (case k_lov => k_is)
    (case a_any => k_is)
    (case l_any => k_is)
    (case c_any => k_is)
    (case k_any => k_is)
    (case a_isseq => k_is)
    (case l_isseq => k_is)
    (case c_isseq => k_is)
    (case k_isseq => k_is)
    (case a_tupof => k_is)
    (case l_tupof => k_is)
    (case c_tupof => k_is)
    (case k_tupof => k_is)
    (case a_isletters => k_is)
    (case l_isletters => k_is)
    (case c_isletters => k_is)
    (case k_isletters => k_is)
    (case a_issigns => k_is)
    (case l_issigns => k_is)
    (case c_issigns => k_is)
    (case k_issigns => k_is)
    (case a_isrow => k_is)
    (case l_isrow => k_is)
    (case c_isrow => k_is)
    (case k_isrow => k_is)
    (case a_order => k_is)
    (case l_order => k_is)
    (case c_order => k_is)
    (case k_order => k_is)
    (case a_xir => k_is)
    (case i_xir => k_is)
    (case l_xir => k_is)
    (case c_xir => k_is)
    (case k_xir => k_is)
    (case a_init => k_is)
    (case i_init => k_is)
    (case l_init => k_is)
    (case c_init => k_is)
    (case k_init => k_is)
    (case a_moves => k_is)
    (case i_moves => k_is)
    (case l_moves => k_is)
    (case c_moves => k_is)
    (case k_moves => k_is)
    (case a_after => k_is)
    (case i_after => k_is)
    (case l_after => k_is)
    (case c_after => k_is)
    (case k_after => k_is)
    (case a_reduced => k_is)
    (case i_reduced => k_is)
    (case l_reduced => k_is)
    (case c_reduced => k_is)
    (case k_reduced => k_is)
    (case a_steps => k_is)
    (case i_steps => k_is)
    (case l_steps => k_is)
    (case c_steps => k_is)
    (case k_steps => k_is)
    (case a_least => k_is)
    (case l_least => k_is)
    (case c_least => k_is)
    (case k_least => k_is)
    (case a_ispairs => k_is)
    (case l_ispairs => k_is)
    (case c_ispairs => k_is)
    (case k_ispairs => k_is)
    (case a_ispair => k_is)
    (case l_ispair => k_is)
    (case c_ispair => k_is)
    (case k_ispair => k_is)
    (case a_ov => k_is)
    (case l_ov => k_is)
    (case c_ov => k_is)
    (case k_ov => k_is)
    (case a_open => k_is)
    (case l_open => k_is)
    (case c_open => k_is)
    (case k_open => k_is)
    (case a_compl => k_is)
    (case l_compl => k_is)
    (case c_compl => k_is)
    (case k_compl => k_is)
    (case a_law => k_is)
    (case l_law => k_is)
    (case c_law => k_is)
    (case k_law => k_is)
    (case z_int => k_is)
    (case z_len => k_is)
    (case z_abs => k_is)
    (case z_str => k_is)
    (case z_list => k_is)
    (case z_tuple => k_is)
    (case z_isinstance => k_is)
    (case z_all => k_is)
    (case z_any => k_is)
    (case z_zip => k_is)
    (case z_range => k_is)
    (case z_max => k_is)
    (case z_min => k_is)
    (case z_enumerate => k_is)
    (case z_repr => k_is)
    (case z_sorted => k_is)
