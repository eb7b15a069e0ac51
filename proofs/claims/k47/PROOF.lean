import PyProof.Rows.All
import Wide.All
import OpenK.AllK
import Wide.FinOn
import Lean
import PyProof.EqAt
import PyProof.EqKinds
import PyProof.TupleCall
import PyProof.AttrMissHeap
import PySem.Challenge.RW_sealchain_k47_registers_parted
set_option Elab.async false
set_option linter.all false
set_option maxRecDepth 100000
set_option bootstrap.genMatcherCode false
set_option compiler.extract_closed false
set_option backward.eqns.nonrecursive false
set_option genSizeOf false
set_option maxHeartbeats 40000000
namespace Lake
theorem rr {α:Sort _}{a:α}:a=a:=rfl
theorem N9 {p:Prop}(h:p:=by lia):p:=h
theorem V9 {p:Prop}(h:p:=by simp):p:=h
theorem Z9 {p:Prop}(h:p:=by decide):p:=h
theorem H9 {p:Prop}(h:p:=by decide +kernel):p:=h
theorem I9 {p:Prop}(h:p:=by rfl):p:=h
theorem Y9 {p:Prop}(h:p:=by simp;lia):p:=h
theorem T9 {p:Prop}(h:p:=by simp[sizeLine]):p:=h
theorem W9 {p:Prop}(h:p:=by kernel_rfl):p:=h
theorem s9 {p:Prop}(h:p:=by size_fits):p:=h
theorem mY {α:Type _}{a:α}(l:List α){k:List α}(h:a∈k):a∈l++k:=List.mem_append_right l h
theorem mZ {α:Type _}(b:α){a:α}{l:List α}(h:a∈l):a∈b::l:=List.mem_cons_of_mem b h
theorem mX {α:Type _}{a:α}{l:List α}:a∈a::l:=List.mem_cons_self
theorem oX {α M:Type _}{o:Option α}{f:α->Option M}{b:M}(h:o.bind f=some b):∃a,o=some a/\f a=some b:=Option.bind_eq_some_iff.mp h
theorem oY {α M:Type _}{f:α->M}{o:Option α}{b:M}(h:o.map f=some b):∃a,o=some a/\f a=b:=Option.map_eq_some_iff.mp h
def wX:=@PySem.wpAny_bind
def wY:=@PySem.wpAny_pure
def vZ:=@PySem.Heap.get?_push_of_some
def vY:=@PySem.Heap.get?_push_size
def vX:=@PySem.Heap.lt_size
def vW:=@PySem.Heap.SameBut.update
theorem vV {α:Type _}{l:List α}{i:Nat}{a:α}(h:l[i]? = some a):∃h:i<l.length,l[i]=a:=List.getElem?_eq_some_iff.mp h
theorem vU {α:Type _}{l:List α}{i:Nat}(h:i<l.length):l[i]? = some l[i]:=List.getElem?_eq_getElem h
theorem vT (n:Nat):n<=n:=Nat.le_refl n
theorem vS {a b:Nat}(h:a<b):a≠b:=Nat.ne_of_lt h
theorem vR {n m k:Nat}:n<=m->m<=k->n<=k:=Nat.le_trans
theorem vQ {n m k:Nat}:n<m->m<=k->n<k:=Nat.lt_of_lt_of_le
theorem vP {α:Type _}{a b:α}{l:List α}(h:b∈a::l):b=a\/b∈l:=List.mem_cons.mp h
theorem vO {α M:Type _}{b:M}{f:α->M}{l:List α}(h:b∈l.map f):∃a,a∈l/\f a=b:=List.mem_map.mp h
theorem vN {α:Type _}{a:α}{p:α->Bool}{l:List α}(h:a∈l.filter p):a∈l/\p a=true:=List.mem_filter.mp h
theorem vM {α:Type _}(p:α->Bool)(l:List α):(l.filter p).length<=l.length:=List.length_filter_le p l
theorem vL {α:Type _}{l:List α}{i:Nat}{a:α}(h:l[i]? = some a):a∈l:=List.mem_of_getElem? h
theorem vK {α:Type _}{a b:α}(h:some a=some b):a=b:=Option.some.inj h
theorem vJ {α M:Type _}(a:α)(f:α->Option M):(some a).bind f=f a:=rfl
theorem vH {α O:Type _}{M:List α}(f:α->O):(M.map f).length=M.length:=List.length_map f
theorem vG {α:Type _}{l:List α}:l.toArray.size=l.length:=rfl
theorem vF {α:Type _}{xs:Array α}:xs.toList.length=xs.size:=rfl
theorem vC {α:Type _}{a:α}{M:List α}:(a::M).length=M.length+1:=rfl
theorem vB (a b:Bool):((a && b)=true)=(a=true/\b=true):=Bool.and_eq_true a b
theorem vA {α:Type _}{i j:Nat}{a:α}{l:List α}(h:i≠j):(l.set i a)[j]? = l[j]?:=List.getElem?_set_ne h
theorem uZ {α M:Type _}{f:α->M}{l:List α}{i:Nat}:(l.map f)[i]? = Option.map f l[i]?:=List.getElem?_map
theorem uY {α:Type _}{M bs:List α}:(M++bs).length=M.length+bs.length:=List.length_append
theorem uX {α M:Type _}{f:α->M}{a:α}{l:List α}:(a::l).map f=f a::l.map f:=rfl
theorem uW:false≠true:=Bool.false_ne_true
theorem uV {α O:Type _}{f:α->O}{l M:List α}:(l++M).map f=l.map f++M.map f:=List.map_append
theorem uU:(false=true)=False:=Bool.false_eq_true
theorem uT {α:Type _}{x:Option α}(h:x.isSome=true):∃a,x=some a:=Option.isSome_iff_exists.mp h
theorem uS {α:Type _}{a b:α}(h:a∈[b]):a=b:=List.mem_singleton.mp h
theorem uR {α M:Type _}{b:M}{f:α->M}{l:List α}(h:∃a,a∈l/\f a=b):b∈l.map f:=List.mem_map.mpr h
theorem uQ {α:Type _}{l:List α}{p:α->Bool}(h:l.all p=true):∀x∈l,p x=true:=List.all_eq_true.mp h
theorem uP {α:Type _}(M:List α):M++[]=M:=List.append_nil M
theorem uO {α M O:Type _}{g:M->O}{f:α->M}{l:List α}:(l.map f).map g=l.map (g ∘ f):=List.map_map
theorem uM (n:Nat):0<=n:=Nat.zero_le n
theorem xw {p:Prop}[Decidable p](h:p):decide p=true:=decide_eq_true h
theorem ES {p:Prop}[Decidable p](h:¬p):decide p=false:=decide_eq_false h
theorem ET {p:Prop}[Decidable p](h:decide p=true):p:=of_decide_eq_true h
noncomputable section
noncomputable abbrev _root_.PySem.Shared.z (s:PySem.Shared):=s.heap.objs.size
open PySem.W (Frag kia_one fnOf nsIn mg_of)
open List (mem_append mem_append_left getElem?_set_self mem_filterMap nodup_cons of_mem_zip getElem?_append_left take_sublist length_take length_drop length_set all_cons any_cons replicate_succ flatten_cons foldl_cons nodup_nil lookup_cons length_replicate append_assoc not_mem_nil length_range mem_singleton find?_cons pairwise_cons mem_iff_getElem? pairwise_map getElem_mem nodup_append take_add_one mem_range getElem?_eq_none ext_getElem? not_lt lt_irrefl lt_trans nil_perm cons_lt_cons_iff cons_append getD_eq_getElem?_getD getElem?_zip_eq_some length_zip zip_cons_cons take_length all_eq_true length_zipIdx zip_map' filter_sublist mem_of_mem_take flatMap_cons length_singleton map_id mem_cons length_nil filter_congr map_drop forall_mem_cons)
open Nat (le_of_lt ne_of_gt le_of_eq le_succ lt_of_le_of_lt lt_succ_of_lt)
open PySem.F (slot_tuple_add entry_tuple_add args_tuple_add_2 slot_dict_get entry_dict_get plainAttrs_dict plainAttrs_list slot_tuple_iterator_next slot_zip_next entry_zip_next args_zip_next_1 called_set slot_set_iter plain_extend_loop slot_tuple_lt slot_tuple_gt slot_list_getattribute)
abbrev QV:=PySem.Value->PySem.Shared->Prop
abbrev AO:=List (PySem.Addr×PySem.Obj)
abbrev SV:=PySem.Str->Option PySem.Value
abbrev LU:=List PySem.Value
abbrev AV:=Array PySem.Value
abbrev LS:=List PySem.Str
abbrev QD:=List PySem.Expr
abbrev LN:=List Nat
abbrev LI:=List Int
abbrev OI:=Option Int
namespace L2
open PySem PySem.Spec PyProof.Rows
abbrev di:=Sum Int Str
noncomputable def sQ:di->Value->Bool
 |.inl k,v=>Value.isInt k v
 |.inr x,v=>Value.isStrOf x v
noncomputable def WO (w:World):di->Int
 |.inl k=>hashInt k
 |.inr x=>hashStr w x
theorem cI:∀ {k:di}{v:Value},sQ k v=true->(∃i t,k=Sum.inl i/\v=Value.int i t)\/(∃x t,k=Sum.inr x/\v=Value.str x t)
 |.inl i,v,h=>by
  obtain⟨t,e⟩:=Value.isInt_shape h;exact .inl ⟨i,t,rr,e⟩
 |.inr x,v,h=>by
  obtain⟨t,e⟩:=Value.isStrOf_shape h;exact .inr ⟨x,t,rr,e⟩
theorem Dz (i:Int)(t:Tok):sQ (.inl i) (.int i t)=true:=by simp[sQ,Value.isInt]
theorem D0 (x:Str)(t:Tok):sQ (.inr x) (.str x t)=true:=by simp[sQ,Value.isStrOf]
theorem O7 (a b:Int):decide ((Sum.inl a:di)=Sum.inl b)=(a == b):=by
 lia
theorem O8 (a b:Str):decide ((Sum.inr a:di)=Sum.inr b)=decide (a=b):=by
 simp
theorem O9 (a:Int)(b:Str):decide ((Sum.inl a:di)=Sum.inr b)=false:=I9
theorem OA (a:Str)(b:Int):decide ((Sum.inr a:di)=Sum.inl b)=false:=I9
def cc (prog:Program)(w:World):PySem.KeyKind prog w di where
 is:=sQ
 hash:=WO w
 inj:=λv a b ha hb=>by
  grind[cI]
 byValue:=λk v h=>by
  rcases cI h with⟨i,t,rfl,rfl⟩|⟨x,t,rfl,rfl⟩<;>rfl
 pyHash:=λhv h=>by
  rcases cI hv with⟨i,t,rfl,rfl⟩|⟨x,t,rfl,rfl⟩
  .exact wpAny_pyHash_int h
  .exact wpAny_pyHash_str h
 eqBool:=λhu hv h=>by
  rcases cI hu with⟨i,t,rfl,rfl⟩|⟨x,t,rfl,rfl⟩
  .rcases cI hv with⟨j,u,rfl,rfl⟩|⟨y,u,rfl,rfl⟩
   .rw[O7]at h;exact wpAny_eqBool_int h
   .rw[O9]at h;exact SeqAt.EqAt.int_str i t y u _ _ _ _ h
  .rcases cI hv with⟨j,u,rfl,rfl⟩|⟨y,u,rfl,rfl⟩
   .rw[OA]at h;exact SeqAt.EqAt.str_int x t j u _ _ _ _ h
   .rw[O8]at h;exact wpAny_eqBool_str h
 «strs»:=λk x t v h=>by
  rcases cI h with⟨i,u,rfl,e⟩|⟨y,u,rfl,e⟩
  .exact nomatch e
  .injection e with M _;subst M;cases v<;>rfl
theorem xy (prog:Program)(w:World)(i:Int)(t:Tok):(cc prog w).is (.inl i) (.int i t)=true:=Dz i t
theorem xz (prog:Program)(w:World)(x:Str)(t:Tok):(cc prog w).is (.inr x) (.str x t)=true:=D0 x t
inductive V where
 |non|bl (b:Bool)|int (i:Int)|str (x:Str)|byt (b:Array UInt8)|flt (b:UInt64)|ref (a:Addr)|ty (n:String)
 deriving DecidableEq
def aG:V->Value->Prop
 |.non,u=>u=Value.none
 |.bl b,u=>u=Value.bool b
 |.int i,u=>∃t,u=Value.int i t
 |.str x,u=>∃t,u=Value.str x t
 |.byt b,u=>∃t,u=Value.bytes b t
 |.flt b,u=>∃t,u=Value.float b t
 |.ref a,u=>u=Value.ref a
 |.ty n,u=>u=Value.type n
abbrev aF:List V->LU->Prop:=Paired aG
theorem aF.length (r:aF xs us):xs.length=us.length:=Paired.length r
theorem aF.get:∀ {xs:List V}{us:LU}{i:Nat}{x:V},aF xs us->xs[i]? = some x->∃u,us[i]? = some u/\aG x u
 |_,_,_,_,.nil,e=>by simp at e
 |_,_,0,_,.cons r _,e=>by simp_all
 |_,_,i+1,x,.cons _ t,e=>by
  obtain⟨u,h1,h2⟩:=aF.get t (by simpa using e);simp_all
theorem aF.set (r:aG x u):∀ {xs:List V}{us:LU}(i:Nat),aF xs us->aF (xs.set i x) (us.set i u)
 |_,_,_,.nil=>.nil
 |_,_,0,.cons _ t=>.cons r t
 |_,_,i+1,.cons q t=>.cons q (aF.set r i t)
theorem aF.append:∀ {xs ys:List V}{us M:LU},aF xs us->aF ys M->aF (xs++ys) (us++M)
 |_,_,_,_,.nil,s=>s
 |_,_,_,_,.cons r t,s=>.cons r (aF.append t s)
theorem aF.take:∀ {xs:List V}{us:LU}(n:Nat),aF xs us->aF (xs.take n) (us.take n)
 |_,_,0,_=>.nil
 |_,_,_+1,.nil=>.nil
 |_,_,n+1,.cons r t=>.cons r (aF.take n t)
theorem aF.drop:∀ {xs:List V}{us:LU}(n:Nat),aF xs us->aF (xs.drop n) (us.drop n)
 |_,_,0,r=>r
 |_,_,_+1,.nil=>.nil
 |_,_,n+1,.cons _ t=>aF.drop n t
def oW:Option V->Option Value->Prop
 |some v,some u=>aG v u
 |none,none=>True
 |_,_=>False
def KV {κ:Type}:List (κ×V)->List (κ×Value)->Prop:=Paired λ(p:κ×V) (q:κ×Value)=>p.1=q.1/\aG p.2 q.2
noncomputable def kV:di->V
 |.inl i=>.int i
 |.inr x=>.str x
inductive HO where
  |lst (xs:List V)
  |tup (xs:List V)
  |dK (a7:List (di×V)) (ob:Obj)|dT (a7:List (List di×V))
  |set (S:Int->Bool) (n:Nat)
  |ins (C dx:Addr) (fs:List (Str×V))
  |own (x:Addr)
  |xd (fs:List (Str×V))
  |met (f x:Addr)
  |rng (lo hi:Int)
  |frz (o:Obj) (u:HO)
  |tbl (q:Str)
  |ext (φ:Heap->Prop)
abbrev Hp:=Addr->Option HO
noncomputable def upd (H:Hp)(a:Addr)(o:HO):Hp:=λb=>if b=a then some o else H b
theorem aq:upd H a o a=some o:=by unfold upd;rw[if_pos rr]
theorem a6 (h:b≠a):upd H a o b=H b:=by unfold upd;rw[if_neg h]
theorem l7:upd (upd H a o) a u=upd H a u:=by
 grind[upd]
theorem SQ {H:Hp}{a b:Addr}{o u:HO}(h:H a=some o)(h':H b=some u)(d:o≠u):a≠b:=by
 lia
theorem aL {H:Hp}{a b:Addr}{o:HO}(h:H a=some o)(h':H b=none):a≠b:=by
 lia
section
variable (P:Program) (w:World)
def bc (H:Hp)(h:Heap)(a:Addr):HO->Prop
 |.lst xs=>xs.length<=sizeLine/\∃(its:LU)(n:Nat),aF xs its/\h.get? a=some { cls:=.type "list",data:=.seq its.toArray n }
 |.tup xs=>xs.length<=sizeLine/\∃its:LU,aF xs its/\IsTup h a its.toArray
 |.dK a7 ob=>h.get? a=some ob/\a7.length<=sizeLine/\(a == sysModules)=false/\∃vs,KV a7 vs/\h.DictOf (cc P w) a vs
 |.dT a7=>a7.length<=sizeLine/\(a == sysModules)=false/\∃xs:List (List di×Addr×Value),
   Paired (λ(p:List di×V) (q:List di×Addr×Value)=>p.1=q.1/\H q.2.1=some (.tup (p.1.map kV))/\aG p.2 q.2.2) a7 xs /\
   ∃o es U,h.get? a=some o/\o.ExactDict/\o.data=.dict es U/\es.toList=xs.map (entryOfKey (tupleKind (cc P w)))/\(xs.map (·.1)).Nodup
 |.set S n=>h.SetOf (intKind P w) a S n
 |.ins C dx fs=>H dx=some (.own a)/\fs.length<=1000/\dx≠a/\h.get? a=some (PySem.W.instObj C dx) /\
   ∃mA,h.Ns1 dx mA/\(∀f,oW (fs.lookup f) (mA f))/\PySem.Within mA (fs.map (·.1))
 |.own _=>∃o,h.get? a=some o
 |.xd fs=>∃mA,h.Ns1 a mA/\∀f,oW (fs.lookup f) (mA f)
 |.rng lo hi=>∃t u v,h.get? a=some { cls:=.type "range",data:=.fields #[.int lo t,.int hi u,.int 1 v] }
 |.frz o u=>h.get? a=some o/\bc H h a u
 |.tbl q=>∃ps:AV,h.get? a=some { cls:=.none,data:=.fields ps }/\TriplesOk ps.toList/\∀M O,codeAmong M ps.toList=some O->∃(c:Addr)(oc:Obj)(u:HO)(vs:AV)(t:Tok),O=.ref c/\H c=some (.frz oc u)/\oc.data=.fields vs/\vs[1]? = some (.str q t)
 |.met f x=>h.get? a=some (PySem.W.methodObj (.ref f) (.ref x))
 |.ext φ=>φ h/\(∃o,h.get? a=some o)/\∀h1 h2:Heap,φ h1->(∀o,h1.get? a=some o->h2.get? a=some o)->φ h2
def kq (H:Hp)(h:Heap):Prop:=∀a o,H a=some o->bc P w H h a o
end
section
variable {P:Program}{w:World}{H H':Hp}{h h':Heap}{a:Addr}{o:HO}
theorem bc.lt (x:bc P w H h a o):a<h.objs.size:=by
 cases o with
 |lst xs=>obtain⟨_,_,_,_,e⟩:=x;exact vX e
 |tup xs=>obtain⟨_,_,_,p⟩:=x;exact p.lt
 |dK a7 ob=>exact vX (And.left x)
 |dT a7=>obtain⟨_,_,_,_,o,_,_,e,_⟩:=x;exact vX e
 |set S n=>obtain⟨o,_,_,_,e,_⟩:=x;exact vX e
 |ins C dx fs=>obtain⟨_,_,_,e,_⟩:=x;exact vX e
 |own y=>obtain⟨_,e⟩:=x;exact vX e
 |xd fs=>obtain⟨_,⟨_,_,_,e,_⟩,_⟩:=x;exact vX e
 |rng lo hi=>obtain⟨_,_,_,e⟩:=x;exact vX e
 |frz ob u=>obtain⟨e,_⟩:=x;exact vX e
 |tbl q=>obtain⟨_,e,_⟩:=x;exact vX e
 |met f y=>exact vX (show h.get? a=some _ from x)
 |ext φ=>obtain⟨_,⟨_,e⟩,_⟩:=x;exact vX e
theorem Paired.mapP {α U:Type}{F G:α->U->Prop}:∀ {M:List α}{O:List U},Paired F M O->(∀a b,F a b->G a b)->Paired G M O
 |_,_,.nil,_=>.nil
 |_,_,.cons r t,f=>.cons (f _ _ r) (Paired.mapP t f)
theorem bc.stay (x:bc P w H h a o)(k:∀b u,(b=a\/H b=some (.own a))->h.get? b=some u->h'.get? b=some u)
  (ho:∀b,H b=some (.own a)->H' b=some (.own a)) (U:∀b xs,H b=some (.tup xs)->H' b=some (.tup xs)) (hf:∀b o u,H b=some (.frz o u)->H' b=some (.frz o u)):bc P w H' h' a o:=by
 induction o with
 |lst xs=>obtain⟨z,its,n,r,e⟩:=x;exact⟨z,its,n,r,k _ _ (.inl rr) e⟩
 |tup xs=>obtain⟨z,its,r,ob,e,c⟩:=x;exact⟨z,its,r,ob,k _ _ (.inl rr) e,c⟩
 |dK a7 i=>obtain⟨g,z,y,vs,r,ob,es,M,e,c⟩:=x;exact⟨k _ _ (.inl rr) g,z,y,vs,r,ob,es,M,k _ _ (.inl rr) e,c⟩
 |dT a7=>
  obtain⟨z,y,xs,r,ob,es,M,e,c⟩:=x;exact⟨z,y,xs,Paired.mapP r λp q z=>⟨z.1,U _ _ z.2.1,z.2.2⟩,ob,es,M,k _ _ (.inl rr) e,c⟩
 |set S n=>obtain⟨ob,es,M,t,e,c⟩:=x;exact⟨ob,es,M,t,k _ _ (.inl rr) e,c⟩
 |ins C dx fs=>
  obtain⟨d,z,ne,e,mA,⟨od,es,M,e2,c⟩,r⟩:=x;exact⟨ho _ d,z,ne,k _ _ (.inl rr) e,mA,⟨od,es,M,k _ _ (.inr d) e2,c⟩,r⟩
 |own y=>obtain⟨ob,e⟩:=x;exact⟨ob,k _ _ (.inl rr) e⟩
 |xd fs=>obtain⟨mA,⟨od,es,M,e,c⟩,r⟩:=x;exact⟨mA,⟨od,es,M,k _ _ (.inl rr) e,c⟩,r⟩
 |rng lo hi=>obtain⟨t,u,v,e⟩:=x;exact⟨t,u,v,k _ _ (.inl rr) e⟩
 |frz ob u j=>obtain⟨e,q⟩:=x;exact⟨k _ _ (.inl rr) e,j q⟩
 |tbl q=>obtain⟨ps,e,t,c⟩:=x;exact⟨ps,k a _ (.inl rr) e,t,λO l z=>let ⟨d,oc,u,vs,tk,m,s,A⟩:=c O l z;⟨d,oc,u,vs,tk,m,hf _ _ _ s,A⟩⟩
 |met f y=>
  have e:=x;exact k a _ (.inl rr) e
 |ext φ=>obtain⟨p,⟨o,e⟩,st⟩:=x;exact⟨st _ _ p λo q=>k _ _ (.inl rr) q,⟨o,k _ _ (.inl rr) e⟩,st⟩
theorem kq.lt (x:kq P w H h)(e:H a=some o):a<h.objs.size:=(x a o e).lt
theorem kq.fresh (x:kq P w H h)(e:h.objs.size<=a):H a=none:=by
 cases q:H a with
 |none=>rfl
 |some u=>exact absurd (vQ (x.lt q) e) (Nat.lt_irrefl _)
theorem kq.kept (x:kq P w H h)(k:∀b u,h.get? b=some u->h'.get? b=some u):kq P w H h':=λa o e=>
 (x a o e).stay (λb u _ q=>k b u q) (λ_ q=>q) (λ_ _ q=>q) λ_ _ _ q=>q
theorem kq.laid (x:kq P w H h)(k:∀b u,h.get? b=some u->h'.get? b=some u)(hp:h.objs.size<=a)(new:bc P w (upd H a o) h' a o):kq P w (upd H a o) h':=λb u e=>by
 have hn:=x.fresh hp;by_cases hb:b=a
 .simp_all[aq]
 .rw[a6 hb]at e;exact(x b u e).stay (λc v _ q=>k c v q) (λc q=>by rw[a6 (aL q hn)];exact q) (λc xs q=>by rw[a6 (aL q hn)];exact q) λc o xs q=>by rw[a6 (aL q hn)];exact q
end
def Rd (H:Hp)(a:Addr)(u:HO):Prop:=H a=some u\/∃o,H a=some (.frz o u)
theorem Rd.ok (r:Rd H a u)(x:kq P w H h):bc P w H h a u:=by
 rcases r with r|⟨o,r⟩
 .exact x a u r
 .obtain⟨_,q⟩:=x a _ r;exact q
def SR:Option HO->Prop
 |some (.lst _)=>True
 |some (.dK _ _)=>True
 |some (.dT _)=>True
 |some (.set _ _)=>True
 |some (.ins _ _ _)=>True
 |some (.ext _)=>True
 |_=>False
section
variable {P:Program}{w:World}{H:Hp}{h h':Heap}{x e:Addr}{o':HO}
theorem kq.write (ok:kq P w H h)(M:SR (H x))(he:e=x\/H e=some (.own x))(k:∀b u,b≠e->h.get? b=some u->h'.get? b=some u)(a:∃u,h'.get? e=some u)
  (new:bc P w (upd H x o') h' x o'):kq P w (upd H x o') h':=λb u q=>by
 have O:∀c y,H c=some (.own y)->c≠x:=λc y r z=>by subst z;rw[r]at M;exact M
 have U:∀c xs,H c=some (.tup xs)->c≠x:=λc xs r z=>by subst z;rw[r]at M;exact M
 by_cases hb:b=x
 .simp_all[aq]
 .rw[a6 hb]at q;by_cases d:b=e
  .have f:H b=some (.own x):=by
    lia
   rw[q]at f;cases f;obtain⟨v,hv⟩:=a;exact⟨v,by rw[d];exact hv⟩
  .refine(ok b u q).stay (λc v hc r=>k c v ?_ r) (λc r=>by rw[a6 (O c b r)];exact r) (λc xs r=>by rw[a6 (U c xs r)];exact r) λc o xs r=>by rw[a6 (λz=>by subst z;rw[r]at M;exact M)];exact r
   grind
end
structure Un (fs ex:List Addr)(H H':Hp)(h h':Heap):Prop where
 keep:∀b o,h.get? b=some o->H b=none->b∉fs->b∉ex->h'.get? b=some o
 slot:∀b o,h.get? b=some o->H b=none->b∈fs->b∉ex->∃sl,h'.get? b=some { o with slots:=sl }
 free:∀b o,h.get? b=some o->H b=none->b∉ex->H' b=none
 there:∀b o,h.get? b=some o->b∉ex->∃o',h'.get? b=some o'
 tups:∀b xs,H b=some (.tup xs)->H' b=some (.tup xs)
 frzs:∀b o u,H b=some (.frz o u)->H' b=some (.frz o u)
 tbls:∀b q,H b=some (.tbl q)->H' b=some (.tbl q)
section
variable {fs XS ex Z5:List Addr}{H H1 H2:Hp}{h h1 h2 h':Heap}{a x e:Addr}{o:HO}
theorem Un.any (u:Un fs ex H H1 h h1)(q:h.get? b=some ob)(n:H b=none)(hx:b∉ex):∃sl,h1.get? b=some { ob with slots:=sl }:=by
 by_cases hb:b∈fs
 .exact u.slot b ob q n hb hx
 .exact⟨ob.slots,u.keep b ob q n hb hx⟩
theorem Un.trans (a:Un fs ex H H1 h h1)(b:Un fs ex H1 H2 h1 h2):Un fs ex H H2 h h2 where
 keep:=λc ob q n hc hx=>b.keep c ob (a.keep c ob q n hc hx) (a.free c ob q n hx) hc hx
 slot:=λc ob q n hc hx=>by
  obtain⟨sl,M⟩:=a.slot c ob q n hc hx;obtain⟨O,e2⟩:=b.slot c _ M (a.free c ob q n hx) hc hx;exact⟨O,e2⟩
 free:=λc ob q n hx=>by
  obtain⟨o',M⟩:=a.there c ob q hx;exact b.free c o' M (a.free c ob q n hx) hx
 there:=λc ob q hx=>by
  obtain⟨o',M⟩:=a.there c ob q hx;exact b.there c o' M hx
 tups:=λc xs q=>b.tups c xs (a.tups c xs q)
 frzs:=λc ob xs q=>b.frzs c ob xs (a.frzs c ob xs q)
 tbls:=λc ps q=>b.tbls c ps (a.tbls c ps q)
theorem Un.kept (k:∀b u,h.get? b=some u->h'.get? b=some u):Un fs ex H H h h':=
 ⟨λb ob q _ _ _=>k b ob q,λb ob q _ _ _=>⟨ob.slots,k b ob q⟩,λ_ _ _ n _=>n,λb ob q _=>⟨ob,k b ob q⟩,λ_ _ q=>q,λ_ _ _ q=>q,λ_ _ q=>q⟩
theorem Un.refl:Un fs ex H H h h:=Un.kept λ_ _ q=>q
theorem Un.laid (k:∀b u,h.get? b=some u->h'.get? b=some u)(hp:h.objs.size<=a)(hn:H a=none):Un fs ex H (upd H a o) h h' where
 keep:=λb u q _ _ _=>k b u q
 slot:=λb u q _ _ _=>⟨u.slots,k b u q⟩
 free:=λb u q n _=>by rw[a6 (vS (vQ (vX q) hp))];exact n
 there:=λb u q _=>⟨u,k b u q⟩
 tups:=λb xs q=>by rw[a6 (aL q hn)];exact q
 frzs:=λb u xs q=>by rw[a6 (aL q hn)];exact q
 tbls:=λb ps q=>by rw[a6 (aL q hn)];exact q
theorem Un.write (M:SR (H x))(he:e=x\/H e=some (.own x))(k:∀b u,b≠e->h.get? b=some u->h'.get? b=some u)(O:∃u,h'.get? e=some u):Un fs ex H (upd H x o) h h':=by
 have hx:∀b,H b=none->b≠x:=λb n z=>by subst z;rw[n]at M;exact M
 have hb:∀b,H b=none->b≠e:=λb n z=>by
  simp_all
 have hm:∀b u,H b=some u->¬SR (some u)->b≠x:=λb u q nm z=>by simp_all
 refine⟨λb u q n _ _=>k b u (hb b n) q,λb u q n _ _=>⟨u.slots,k b u (hb b n) q⟩,λb u q n _=>by rw[a6 (hx b n)];exact n,λb u q _=>?_,
  λb xs q=>by rw[a6 (hm b _ q λz=>z)];exact q,λb u xs q=>by rw[a6 (hm b _ q λz=>z)];exact q,λb ps q=>by rw[a6 (hm b _ q λz=>z)];exact q⟩
 grind
end
noncomputable def YZ (h:Heap)(H:Hp):List Addr:=(List.range h.objs.size).filter λa=>(H a).isSome
def x0 (h:Heap)(H:Hp):Heap:=PySem.W.hideAll h (YZ h H)
theorem D1 (h:Heap)(H:Hp):(x0 h H).objs.size=h.objs.size:=PySem.W.hideAll_size _ _
theorem pG (e:h.get? b=some o)(n:H b=none):(x0 h H).get? b=some o:=
 PySem.W.hideAll_get _ e λhm=>by
  have q:=(vN hm).2;simp_all
theorem KN (e:(x0 h H).get? b=some o):h.get? b=some o/\H b=none:=by
 have M:=PySem.W.of_hideAll _ e;refine⟨M,?_⟩;cases q:H b with
 |none=>rfl
 |some x=>
  simp_all[YZ,vX,x0,PySem.W.hideAll_none]
noncomputable def KO (g h:Heap)(L:Addr):AO:=(List.range h.objs.size).filterMap λa=>if a=L\/(g.get? a).isSome=true then none else (h.get? a).map λo=>(a,o)
def ag (g h:Heap)(L d:Addr):AO:=(KO g h L).filter λp=>decide (p.1≠d)
structure Mod (K:Frag)(mg:Str->Option Value)(base:Heap):Prop where
 kin:K.In base
 glob:base.Ns mainGlobals mg
 blt:∃mb,base.Ns builtinsNs mb/\∀x:Str,x ≠ "__name__"->mb x=bootBuiltins x
 nolimit:base.NoLimit
 bmain:∃bm ob,mg "__builtins__" = some (.ref bm)/\bm≠builtinsNs/\base.get? bm=some ob/\ob.cls=.type "module"/\ob.dict=some builtinsNs/\ob.data=.plain
set_option genInjectivity false
structure Cx where
 prog:Program
 w:World
 K:Frag
 mg:Str->Option Value
 base:Heap
 A:Around
 N:List Str
 s₀:Shared
 H₀:Hp
 env:Env
 outer:List Env
 stack:List Env
 ex:List Addr
 fn:Str->Bool
 calm:Bool
 pn:List (Addr×Obj)
 xe:Value->Shared->Prop
noncomputable def Ff (l:List Env):List Addr:=l.filterMap (·.frame)
abbrev Cx.fs (X:Cx):List Addr:=Ff X.outer
def Fg (sc:Scope)(x:Str):Prop:=sc.names.lookup x=some .local\/sc.names.lookup x=some .cell\/sc.names.lookup x=some .free
def K6 (sc:Scope)(x:Str):Prop:=sc.names.lookup x=some .local\/sc.names.lookup x=some .cell
def WP (env:Env)(h:Heap)(m:SV)(x:Str)(u:Value):Prop:=
 (env.kindOf x=some .local/\m x=some u)\/((env.kindOf x=some .cell\/env.kindOf x=some .free)/\∃c,env.cells.lookup x=some c/\h.IsCell c (some u))
abbrev wq {α:Type}(X:Cx):Sem α->(α->Shared->Prop)->(Value->Shared->Prop)->Shared->Prop:=wpAny (model X.prog X.w) X.A
structure Cx.Ok (X:Cx):Prop where
 mod:Mod X.K X.mg X.base
 kind:X.env.scope.kind=.function
 glob:X.env.globals=mainGlobals
 blt:X.env.builtins=builtinsNs
 above:X.s₀.z<=X.env.locals
 inj:∀x y c,X.env.cells.lookup x=some c->X.env.cells.lookup y=some c->x=y
 has:∀x,(X.env.kindOf x=some .cell\/X.env.kindOf x=some .free)->∃c,X.env.cells.lookup x=some c
 cab:∀x c,X.fn x=true->X.env.cells.lookup x=some c->X.s₀.z<=c
 hd:X.calm=true->X.A.handled=none
 frames:X.A.frames=some X.stack
 stk:X.stack=X.outer\/(X.stack=X.env::X.outer/\X.env.frame=some X.env.locals)
 exf:∀b∈X.ex,b≠X.env.locals/\∀x c,X.env.cells.lookup x=some c->c≠b
 bs:∀b o,X.base.get? b=some o->X.s₀.heap.get? b=some o/\X.H₀ b=none
 bsz:X.base.objs.size<=X.s₀.z
 noex:∀b o,X.base.get? b=some o->b∉X.ex
 exfs:∀b∈X.ex,b∉X.fs
 funs:X.s₀.heap.FunFrames X.base X.outer
 frf:∀b∈X.fs,X.H₀ b=none
structure Inv (X:Cx)(af:List (Addr×Obj))(σ:List (Option V))(H:Hp)(s:Shared):Prop where
 ok:X.Ok
 os:s.os=X.s₀.os
 bare:AllBare s.gens
 base:Un X.fs X.ex X.H₀ H X.s₀.heap s.heap
 loc:∃m,s.heap.Ns X.env.locals m/\∀(i:Nat)(x:Str)(v:V),X.N[i]? = some x->σ[i]? = some (some v)->Fg X.env.scope x->∃u,aG v u/\WP X.env s.heap m x u
 cell:∀x c,X.env.cells.lookup x=some c->∃v,s.heap.IsCell c v
 free:H X.env.locals=none
 freeC:∀x c,X.env.cells.lookup x=some c->H c=none
 pin:∀p∈X.pn++af,s.heap.get? p.1=some p.2/\H p.1=none/\p.1≠X.env.locals/\p.1∉X.fs/\∀v,p.2.data≠.cell v
 hok:kq X.prog X.w H s.heap
 len:σ.length=X.N.length
section
variable {X:Cx}{af:AO}{σ:List (Option V)}{H H':Hp}{s:Shared}{h':Heap}
theorem Cx.Ok.nofr (ok:X.Ok)(e:X.base.get? b=some o):b∉X.fs:=λhb=>by
 have:=(ok.funs.mem hb).1;simp_all
theorem Inv.bs (I:Inv X af σ H s):∀b o,X.base.get? b=some o->s.heap.get? b=some o/\H b=none:=λb o e=>
 ⟨I.base.keep b o (I.ok.bs b o e).1 (I.ok.bs b o e).2 (I.ok.nofr e) (I.ok.noex b o e),I.base.free b o (I.ok.bs b o e).1 (I.ok.bs b o e).2 (I.ok.noex b o e)⟩
theorem Inv.bk (I:Inv X af σ H s):∀b o,X.base.get? b=some o->s.heap.get? b=some o:=λb o e=>(I.bs b o e).1
theorem Inv.mod (I:Inv X af σ H s):Mod X.K X.mg X.base:=I.ok.mod
theorem Inv.kIn (I:Inv X af σ H s):X.K.In s.heap:=I.ok.mod.kin.keeps I.bk
theorem Inv.nolimit (I:Inv X af σ H s):s.heap.NoLimit:=I.ok.mod.nolimit.keeps I.bk
theorem Inv.lt (I:Inv X af σ H s):X.env.locals<s.z:=let ⟨_,hn,_⟩:=I.loc;hn.lt
theorem Inv.sz (I:Inv X af σ H s):X.s₀.z<=s.z:=vR I.ok.above (le_of_lt I.lt)
theorem Inv.nofs (I:Inv X af σ H s)(h:s.z<=a):a∉X.fs:=λhb=>by
 obtain⟨_,o,ho,_⟩:=I.ok.funs.mem hb;exact absurd (vQ (vX ho) (vR I.sz h)) (Nat.lt_irrefl _)
theorem Inv.cne (I:Inv X af σ H s):∀x c,X.env.cells.lookup x=some c->c≠X.env.locals:=λx c e z=>by
 obtain⟨v,o,ho,hd⟩:=I.cell x c e;obtain⟨m,⟨o',es,U,M,O,_⟩,_⟩:=I.loc;simp_all
theorem Inv.funs (I:Inv X af σ H s):s.heap.FunFrames X.base X.outer:=by
 have all:∀(l:List _),(∀b∈Ff l,b∈X.fs)->X.s₀.heap.FunFrames X.base l->s.heap.FunFrames X.base l:=by
  intro l;induction l with
  |nil=>intro _ _;trivial
  |cons env r O=>
   intro hs hl;obtain⟨hk,⟨L,o,hf,hn,ho,hd⟩,hr⟩:=hl;have M:=hs L (by simp_all[Ff]);obtain⟨sl,e⟩:=I.base.slot L o ho (I.ok.frf L M) M λz=>I.ok.exfs L z M;exact⟨hk,⟨L,_,hf,hn,e,hd⟩,O (λb hb=>hs b (by simp_all[Ff])) hr⟩
 exact all _ (λ_ hb=>hb) I.ok.funs
theorem Inv.stack (I:Inv X af σ H s):s.heap.FunFrames X.base X.stack:=by
 rcases I.ok.stk with e|⟨e,hf⟩
 .rw[e];exact I.funs
 .rw[e];obtain⟨m,hn,_⟩:=I.loc;refine .cons (by rw[I.ok.kind];decide) hf hn ?_ I.funs;exact Heap.get?_none_of_le (vR I.ok.bsz I.ok.above)
theorem Inv.stkSub (I:Inv X af σ H s):∀b∈Ff X.stack,b∈X.env.locals::X.fs:=λb hb=>by
 rcases I.ok.stk with e|⟨e,hf⟩
 .simp_all
 simp_all[Ff]
theorem Inv.stkFree (I:Inv X af σ H s):∀b∈Ff X.stack,H b=none:=λb hb=>by
 rcases vP (I.stkSub b hb)with e|hb
 .rw[e];exact I.free
 .obtain⟨_,o,ho,_⟩:=I.ok.funs.mem hb;exact I.base.free b o ho (I.ok.frf b hb) λz=>I.ok.exfs b z hb
theorem Inv.step {g':Array GenState}{t':Nat}{d':Drawn}{ch:List Addr}(I:Inv X af σ H s)
  (M:∀b∈ch,(b∈X.ex\/X.s₀.z<=b)/\b≠X.env.locals/\(∀x c,X.env.cells.lookup x=some c->c≠b)/\∀p∈X.pn++af,p.1≠b)
  (keep:∀b o,b≠X.env.locals->b∉X.fs->b∉ch->s.heap.get? b=some o->H b=none->h'.get? b=some o)
  (slot:∀b o,b≠X.env.locals->b∈X.fs->b∉ch->s.heap.get? b=some o->H b=none->∃sl,h'.get? b=some { o with slots:=sl }) (free:∀b o,b∉ch->s.heap.get? b=some o->H b=none->H' b=none)
  (there:∀b o,b∉ch->s.heap.get? b=some o->∃o',h'.get? b=some o')
  (tups:∀b xs,H b=some (.tup xs)->H' b=some (.tup xs)) (frzs:∀b o u,H b=some (.frz o u)->H' b=some (.frz o u)) (tbls:∀b q,H b=some (.tbl q)->H' b=some (.tbl q))
  (ns:∀m,s.heap.Ns X.env.locals m->h'.Ns X.env.locals m) (hok:kq X.prog X.w H' h') (t:AllBare g'):
  Inv X af σ H' { s with heap:=h',gens:=g',drawn:=d',toks:=t' }:=by
 have h:∀b o,X.s₀.heap.get? b=some o->b≠X.env.locals:=λb o e=>vS (vQ (vX e) I.ok.above);have f:∀b o,X.s₀.heap.get? b=some o->b∉X.ex->b∉ch:=λb o e hx hb=>by
  rcases (M b hb).1 with z|z
  .exact hx z
  .exact absurd (vQ (vX e) z) (Nat.lt_irrefl _)
 have O:∀x c,X.env.cells.lookup x=some c->∀v,s.heap.IsCell c v->h'.IsCell c v:=λx c e v ⟨o,ho,hd⟩=>by
  have U:c∉ch:=λz=>(M c z).2.2.1 x c e rr;by_cases hc:c∈X.fs
  .obtain⟨sl,q⟩:=slot c o (I.cne x c e) hc U ho (I.freeC x c e);exact⟨_,q,hd⟩
  .exact⟨o,keep c o (I.cne x c e) hc U ho (I.freeC x c e),hd⟩
 refine⟨I.ok,I.os,t,⟨λb o e n hb hx=>?_,λb o e n hb hx=>?_,λb o e n hx=>?_,λb o e hx=>?_,λb xs e=>tups b xs (I.base.tups b xs e),λb o xs e=>frzs b o xs (I.base.frzs b o xs e),λb ps e=>?_⟩,?_,λx c e=>?_,?_,λx c e=>?_,λp hp=>?_,hok,I.len⟩
 .exact keep b o (h b o e) hb (f b o e hx) (I.base.keep b o e n hb hx) (I.base.free b o e n hx)
 .obtain⟨sl,a⟩:=I.base.slot b o e n hb hx;obtain⟨g,e2⟩:=slot b _ (h b o e) hb (f b o e hx) a (I.base.free b o e n hx);exact⟨g,e2⟩
 .obtain⟨o',a⟩:=I.base.there b o e hx;exact free b o' (f b o e hx) a (I.base.free b o e n hx)
 .obtain⟨o',a⟩:=I.base.there b o e hx;exact there b o' (f b o e hx) a
 .exact tbls b _ (I.base.tbls b ps e)
 .obtain⟨m,hn,hl⟩:=I.loc;refine⟨m,ns m hn,λi x v a e2 y=>?_⟩;obtain⟨u,r,l⟩:=hl i x v a e2 y;refine⟨u,r,?_⟩;rcases l with l|⟨k,c,e,z⟩
  .exact .inl l
  .exact .inr ⟨k,c,e,O x c e _ z⟩
 .obtain⟨v,z⟩:=I.cell x c e;exact⟨v,O x c e v z⟩
 .obtain⟨m,⟨o,_,_,ho,_⟩,_⟩:=I.loc;exact free _ o (λz=>(M _ z).2.1 rr) ho I.free
 .obtain⟨v,o,ho,hd⟩:=I.cell x c e;exact free c o (λz=>(M c z).2.2.1 x c e rr) ho (I.freeC x c e)
 .obtain⟨e,n,ne,j,d⟩:=I.pin p hp;have U:p.1∉ch:=λz=>(M p.1 z).2.2.2 p hp rr;exact⟨keep p.1 p.2 ne j U e n,free p.1 p.2 U e n,ne,j,d⟩
theorem Inv.un {t':Nat}(I:Inv X af σ H s)(u:Un X.fs [] H H' s.heap h')(hok:kq X.prog X.w H' h'):Inv X af σ H' { s with heap:=h',toks:=t' }:=by
 obtain⟨m,⟨o,es,d,ho,r⟩,_⟩:=id I.loc;obtain⟨sl,a⟩:=u.any ho I.free V9;exact I.step (ch:=[]) (λ_ z=>nomatch z) (λb o _ hb _ e n=>u.keep b o e n hb V9) (λb o _ hb _ e n=>u.slot b o e n hb V9) (λb o _ e n=>u.free b o e n V9) (λb o _ e=>u.there b o e V9) u.tups u.frzs u.tbls (λf hm=>by
  obtain⟨o',O,U,M,c⟩:=hm;rw[ho]at M;cases M;exact⟨_,O,U,a,c⟩) hok I.bare
theorem Inv.call {g':Array GenState}{t':Nat}{d':Drawn}{ch:List Addr}(I:Inv X af σ H s)(u:Un (Ff X.stack) ch H H' s.heap h')(hok:kq X.prog X.w H' h')(d:AllBare g')
  (M:∀b∈ch,(b∈X.ex\/X.s₀.z<=b)/\b≠X.env.locals/\(∀x c,X.env.cells.lookup x=some c->c≠b)/\∀p∈X.pn++af,p.1≠b):
  Inv X af σ H' { s with heap:=h',gens:=g',drawn:=d',toks:=t' }:=by
 obtain⟨m,⟨o,es,h,ho,r⟩,_⟩:=id I.loc;obtain⟨sl,U⟩:=u.any ho I.free λz=>(M _ z).2.1 rr;exact I.step M (λb o U hb hc e n=>u.keep b o e n (λz=>(vP (I.stkSub b z)).elim U hb) hc) (λb o _ _ hc e n=>u.any e n hc) (λb o hc e n=>u.free b o e n hc) (λb o hc e=>u.there b o e hc) u.tups u.frzs u.tbls (λi hm=>by
  obtain⟨o',f,a,O,g⟩:=hm;rw[ho]at O;cases O;exact⟨_,f,a,U,g⟩) hok d
theorem Inv.turned {t':Nat}{it:Addr}(I:Inv X af σ H s)(k:∀b o,b≠it->s.heap.get? b=some o->h'.get? b=some o)(hn:H it=none)(M:it≠X.env.locals)
  (h1:it∈X.ex\/X.s₀.z<=it) (h2:∀x c,X.env.cells.lookup x=some c->c≠it) (h3:∀p∈X.pn++af,p.1≠it):Inv X af σ H { s with heap:=h',toks:=t' }:=by
 refine I.step (ch:=[it]) (λb hb=>?_) (λb o _ _ hc e _=>k b o (λz=>hc (by simp[z])) e) (λb o _ _ hc e _=>⟨o.slots,k b o (λz=>hc (by simp[z])) e⟩) (λ_ _ _ _ n=>n)
  (λb o hc e=>⟨o,k b o (λz=>hc (by simp[z])) e⟩) (λ_ _ e=>e) (λ_ _ _ e=>e) (λ_ _ e=>e) (λm hm=>?_) (λb u e=>?_) I.bare
 .have e:=by simpa using hb
  subst e;exact⟨h1,M,h2,h3⟩
 .obtain⟨o,es,O,ho,r⟩:=hm;exact⟨o,es,O,k _ o (Ne.symm M) ho,r⟩
 .refine(I.hok b u e).stay (λc v hc q=>k c v ?_ q) (λ_ q=>q) (λ_ _ q=>q) λ_ _ _ q=>q;lia
theorem Inv.tok (I:Inv X af σ H s)(t:Nat):Inv X af σ H { s with toks:=t }:=I.un Un.refl I.hok
theorem Inv.kept (I:Inv X af σ H s)(k:∀b u,s.heap.get? b=some u->h'.get? b=some u):Inv X af σ H { s with heap:=h',toks:=t' }:=I.un (Un.kept k) (I.hok.kept k)
theorem Inv.laid (I:Inv X af σ H s)(k:∀b u,s.heap.get? b=some u->h'.get? b=some u)(hp:s.z<=a)(new:bc X.prog X.w (upd H a o) h' a o):
  Inv X af σ (upd H a o) { s with heap:=h',toks:=t' }:=I.un (Un.laid k hp (I.hok.fresh hp)) (I.hok.laid k hp new)
theorem Inv.write (I:Inv X af σ H s)(O:SR (H x))(he:e=x\/H e=some (.own x))(k:∀b u,b≠e->s.heap.get? b=some u->h'.get? b=some u)(M:∃u,h'.get? e=some u)
  (new:bc X.prog X.w (upd H x o) h' x o):Inv X af σ (upd H x o) { s with heap:=h',toks:=t' }:=I.un (Un.write O he k M) (I.hok.write O he k M new)
theorem Inv.pins_of (I:Inv X af σ H s)(h:∀p∈M,s.heap.get? p.1=some p.2/\H p.1=none/\p.1≠X.env.locals/\p.1∉X.fs/\∀v,p.2.data≠.cell v):Inv X M σ H s:=
 ⟨I.ok,I.os,I.bare,I.base,I.loc,I.cell,I.free,I.freeC,λp hp=>(mem_append.mp hp).elim (λz=>I.pin p (mem_append_left _ z)) (h p),I.hok,I.len⟩
theorem xA {N:LS}(M:N.Nodup){i j:Nat}{x:Str}(a:N[i]? = some x)(b:N[j]? = some x):i=j:=by
 obtain⟨h1,O⟩:=vV a;obtain⟨h2,e2⟩:=vV b;exact(List.getElem_inj M).mp (O.trans e2.symm)
theorem sR {M:Model}{A:Around}{E:QV}{i:Nat}{x:Str}{v:V}{u:Value}{Q:Unit->Shared->Prop}(I:Inv X af σ H s)(J:X.N.Nodup)(hi:X.N[i]? = some x)(hx:K6 X.env.scope x)(r:aG v u)
  (h:∀s',Inv X af (σ.set i (some v)) H s'->(∃a,Heap.SameBut a s.heap s'.heap/\(a=X.env.locals\/X.env.cells.lookup x=some a))->Q () s') (hf:X.fn x=true\/X.env.scope.names.lookup x=some .local:=by first|exact .inl rr|exact .inr rr|assumption):wpAny M A (storeName X.env x u) Q E s:=by
 obtain⟨m,hn,hl⟩:=id I.loc;have P:(X.env.scope.kind == .class || (X.env.scope.kind == .module && X.env.locals != X.env.globals))=false:=by rw[I.ok.kind];rfl
 have K:i<σ.length:=by rw[I.len];exact(vV hi).1
 have cne:=I.cne;have O:∀ {a:Addr}{h':Heap},(∃o,s.heap.get? a=some o/\H a=none)->Heap.SameBut a s.heap h'->kq X.prog X.w H h':=λ{a h'} ha hs b ob e=>by
  obtain⟨_,_,Z8⟩:=ha;refine(I.hok b ob e).stay (λc l hc q=>(hs.2 c ?_).trans q) (λ_ q=>q) (λ_ _ q=>q) λ_ _ _ q=>q;lia
 rcases hx with hk|hk
 .refine wpAny_storeName_local hk hn (λh' R hs=>?_) P;obtain⟨S,_,_,T,_⟩:=id hn;refine h _ ⟨I.ok,I.os,I.bare,⟨λb o e n hb hx=>?_,λb o e n hb hx=>?_,I.base.free,λb o e hx=>?_,I.base.tups,I.base.frzs,I.base.tbls⟩,⟨_,R,λj y t U e2 B=>?_⟩,λy c e=>?_,I.free,I.freeC,λp hp=>?_,O ⟨S,T,I.free⟩ hs,by simpa using I.len⟩ ⟨_,hs,.inl rr⟩
  .exact(hs.2 b (vS (vQ (vX e) I.ok.above))).trans (I.base.keep b o e n hb hx)
  .obtain⟨sl,U⟩:=I.base.slot b o e n hb hx;exact⟨sl,(hs.2 b (vS (vQ (vX e) I.ok.above))).trans U⟩
  .obtain⟨o',U⟩:=I.base.there b o e hx;exact⟨o',(hs.2 b (vS (vQ (vX e) I.ok.above))).trans U⟩
  .by_cases hj:j=i
   .subst hj;rw[hi]at U;cases U;rw[getElem?_set_self K]at e2;cases e2
    exact⟨u,r,.inl ⟨hk,V9⟩⟩
   .rw[vA (Ne.symm hj)]at e2;obtain⟨C,D,q⟩:=hl j y t U e2 B;refine⟨C,D,?_⟩;rcases q with⟨k,e⟩|⟨k,c,e,z⟩
    .refine .inl ⟨k,?_⟩;have:y≠x:=λe=>hj (xA J U (e ▸ hi));simp[this,e]
    .exact .inr ⟨k,c,e,z.sameBut hs (cne y c e)⟩
  .obtain⟨l,z⟩:=I.cell y c e;exact⟨l,z.sameBut hs (cne y c e)⟩
  .obtain⟨e,n,ne,F,d⟩:=I.pin p hp;exact⟨(hs.2 p.1 ne).trans e,n,ne,F,d⟩
 .have G:X.fn x=true:=by
   simp_all<;>lia
  obtain⟨c,hc⟩:=I.ok.has x (.inl hk);obtain⟨l,z⟩:=I.cell x c hc;refine wpAny_storeName_cell I.ok.kind hk hc z (λh' L hs=>?_);obtain⟨oc,W,Y⟩:=id z;refine h { s with heap:=h' } ⟨I.ok,I.os,I.bare,⟨λb o e n hb hx=>?_,λb o e n hb hx=>?_,I.base.free,λb o e hx=>?_,I.base.tups,I.base.frzs,I.base.tbls⟩,⟨m,hn.sameBut hs (Ne.symm (cne x c hc)),λj y t U e2 B=>?_⟩,λy g e=>?_,I.free,I.freeC,λp hp=>?_,O ⟨oc,W,I.freeC x c hc⟩ hs,by simpa using I.len⟩ ⟨c,hs,.inr hc⟩
  .exact(hs.2 b (vS (vQ (vX e) (I.ok.cab x c G hc)))).trans (I.base.keep b o e n hb hx)
  .obtain⟨sl,U⟩:=I.base.slot b o e n hb hx;exact⟨sl,(hs.2 b (vS (vQ (vX e) (I.ok.cab x c G hc)))).trans U⟩
  .obtain⟨o',U⟩:=I.base.there b o e hx;exact⟨o',(hs.2 b (vS (vQ (vX e) (I.ok.cab x c G hc)))).trans U⟩
  .by_cases hj:j=i
   .subst hj;rw[hi]at U;cases U;rw[getElem?_set_self K]at e2;cases e2
    exact⟨u,r,.inr ⟨.inl hk,c,hc,L⟩⟩
   .rw[vA (Ne.symm hj)]at e2;obtain⟨C,D,q⟩:=hl j y t U e2 B;refine⟨C,D,?_⟩;rcases q with q|⟨k,g,e,Z⟩
    .exact .inl q
    .refine .inr ⟨k,g,e,Z.sameBut hs ?_⟩;rintro rfl;exact hj (xA J U (I.ok.inj _ _ _ e hc ▸ hi))
  .by_cases f:g=c
   .subst f;exact⟨_,L⟩
   .obtain⟨w2,z2⟩:=I.cell y g e;exact⟨w2,z2.sameBut hs f⟩
  .obtain⟨e,n,ne,F,d⟩:=I.pin p hp;refine⟨(hs.2 p.1 ?_).trans e,n,ne,F,d⟩;grind
theorem xB {M:Model}{A:Around}{E:QV}{i:Nat}{x:Str}{v:V}{u:Value}{Q:Unit->Shared->Prop}(I:Inv X af σ H s)(O:X.N.Nodup)(hi:X.N[i]? = some x)(hx:K6 X.env.scope x)(r:aG v u)
  (h:∀s',Inv X af (σ.set i (some v)) H s'->Q () s') (hf:X.fn x=true\/X.env.scope.names.lookup x=some .local:=by first|exact .inl rr|exact .inr rr|assumption):wpAny M A (storeName X.env x u) Q E s:=
 sR I O hi hx r (λs' U _=>h s' U) hf
theorem Inv.call' (I:Inv X af σ H s)(ho:s'.os=s.os)(u:Un (Ff X.stack) ch H H' s.heap s'.heap)(hok:kq X.prog X.w H' s'.heap)(O:AllBare s'.gens)
  (M:∀b∈ch,(b∈X.ex\/X.s₀.z<=b)/\b≠X.env.locals/\(∀x c,X.env.cells.lookup x=some c->c≠b)/\∀p∈X.pn++af,p.1≠b):Inv X af σ H' s':=by
 obtain⟨h',g',d',t',o'⟩:=s';have e:=ho;subst e;exact I.call u hok O M
end
abbrev XK:=Value->Option Addr->Hp->Prop
abbrev St:=List (Option V)
abbrev VK:=V->Hp->Prop
abbrev TE:=St->Hp->VK->Prop
abbrev TT:=St->Hp->(Bool->Hp->Prop)->Prop
abbrev TA:=St->Hp->(List V->Hp->Prop)->Prop
structure Ends where
 nx:St->Hp->Prop
 rt:VK
 bk:St->Hp->Prop:=λ_ _=>False
 ct:St->Hp->Prop:=λ_ _=>False
abbrev TS:=Ends->St->Hp->Prop
def EP (X:Cx)(af:AO)(σ:St)(Q:VK)(u:Value)(s':Shared):Prop:=∃v H',Inv X af σ H' s'/\aG v u/\Q v H'
def TP (X:Cx)(af:AO)(σ:St)(Q:Bool->Hp->Prop)(b:Bool)(s':Shared):Prop:=∃H',Inv X af σ H' s'/\Q b H'
def AP (X:Cx)(af:AO)(σ:St)(Q:List V->Hp->Prop)(us:LU)(s':Shared):Prop:=∃vs H',Inv X af σ H' s'/\aF vs us/\Q vs H'
def SP (X:Cx)(af:AO)(D:Ends)(f:Flow)(s':Shared):Prop:=
 match f with
 |.next=>∃M H',Inv X af M H' s'/\D.nx M H'
 |.brk=>∃M H',Inv X af M H' s'/\D.bk M H'
 |.cont=>∃M H',Inv X af M H' s'/\D.ct M H'
 |.ret u=>∃v M H',Inv X af M H' s'/\aG v u/\D.rt v H'
def PE (X:Cx)(e:Expr)(t:TE):Prop:=
 ∀(af:AO)(s:Shared)(σ:St)(H:Hp)(Q:VK),Inv X af σ H s->t σ H Q->wq X (eval e X.env) (EP X af σ Q) X.xe s
def PT (X:Cx)(e:Expr)(t:TT):Prop:=
 ∀(af:AO)(s:Shared)(σ:St)(H:Hp)(Q:Bool->Hp->Prop),Inv X af σ H s->t σ H Q->wq X (isTrue e X.env (eval e X.env)) (TP X af σ Q) X.xe s
def PW (X:Cx)(e:Expr)(t:TT):Prop:=
 ∀(M:Sem Value)(af:AO)(s:Shared)(σ:St)(H:Hp)(Q:Bool->Hp->Prop),Inv X af σ H s->t σ H Q->wq X (isTrue e X.env M) (TP X af σ Q) X.xe s
theorem PW.pt (h:PW X e t):PT X e t:=h _
def PA (X:Cx)(es:QD)(t:TA):Prop:=
 ∀(M:Pos)(af:AO)(s:Shared)(σ:St)(H:Hp)(Q:List V->Hp->Prop),Inv X af σ H s->t σ H Q->wq X (spliced (backTo M (starEach es X.env))) (AP X af σ Q) X.xe s
def PS (X:Cx)(st:Stmt)(t:TS):Prop:=
 ∀(af:AO)(s:Shared)(σ:St)(H:Hp)(D:Ends),Inv X af σ H s->t D σ H->wq X (exec st X.env) (SP X af D) X.xe s
def sU (X:Cx)(st:List Stmt)(t:TS):Prop:=
 ∀(af:AO)(s:Shared)(σ:St)(H:Hp)(D:Ends),Inv X af σ H s->t D σ H->wq X (execs st X.env) (SP X af D) X.xe s
theorem bJ {α:Type}{t:Sem α}{Q O:α->Shared->Prop}{M:Model}{A:Around}{E:QV}{s:Shared}(h:wpAny M A t Q E s)(U:∀a s,Q a s->O a s):wpAny M A t O E s:=wpAny_mono h U λ_ _ x=>x
section
variable {X:Cx}
def Fh (i:Nat):TE:=λσ H Q=>∃v,σ[i]? = some (some v)/\Q v H
def tC (v:V):TE:=λ_ H Q=>Q v H
theorem iB (U:X.N[i]? = some x)(hv:Fg X.env.scope x)(hd:(x == ("__debug__" : Str))=false:=by decide)(O:(x == ("__classdict__" : Str))=false:=by decide):PE X (.Name x pos) (Fh i):=by
 intro af s σ H Q I h;obtain⟨v,e,h⟩:=h;obtain⟨m,hn,hl⟩:=I.loc;obtain⟨u,r,l⟩:=hl i x v U e hv;have dv:EP X _ σ Q u s:=⟨v,H,I,r,h⟩;rcases l with⟨hk,hm⟩|⟨hk,c,hc,M⟩
 .exact wpAny_Name (wpAny_loadName_local I.ok.kind hk hn hm dv) hd
 .rcases hk with hk|hk
  .exact wpAny_Name (wpAny_loadName_cell I.ok.kind hk hc M dv) hd
  .exact wpAny_Name (wpAny_loadName_free I.ok.kind hk hc M dv O) hd
theorem OC {i j M}:PE X (.Constant (.int i) j M) (tC (.int i)):=λ_ _ _ H _ I h=>wpAny_Constant_int ⟨.int i,H,I.tok _,⟨_,rr⟩,h⟩
theorem SS {b j M}:PE X (.Constant (.bool b) j M) (tC (.bl b)):=λ_ _ _ H _ I h=>Constant_bool ⟨.bl b,H,I,rr,h⟩
theorem OD {j M}:PE X (.Constant .none j M) (tC .non):=λ_ _ _ H _ I h=>Constant_none ⟨.non,H,I,rr,h⟩
theorem OE {x j M}:PE X (.Constant (.str x) j M) (tC (.str x)):=λ_ _ _ H _ I h=>Calls.Constant_str ⟨.str x,H,I.tok _,⟨_,rr⟩,h⟩
def Gl (X:Cx)(x:Str):Prop:=X.env.kindOf x=some .globalImplicit
theorem uA {E:QV}{af:AO}{s:Shared}{σ:St}{H:Hp}{x:Str}{u:Value}{M:Pos}{Q:QV}(I:Inv X af σ H s)(O:Gl X x)(hm:X.mg x=some u)(h:Q u s)
  (hd:(x == ("__debug__" : Str))=false:=by decide):wq X (eval (.Name x M) X.env) Q E s:=
 Calls.Name_function_global I.ok.kind O (Calls.loadGlobal_global (by rw[I.ok.glob];exact I.mod.glob.keeps I.bk) hm h) hd
theorem fK {E:QV}{af:AO}{s:Shared}{σ:St}{H:Hp}{x:Str}{u:Value}{M:Pos}{Q:QV}(I:Inv X af σ H s)(O:Gl X x)(hm:X.mg x=none)(hv:bootBuiltins x=some u)(h:Q u s)
  (hn:x ≠ "__name__":=by decide) (hd:(x == ("__debug__" : Str))=false:=by decide):wq X (eval (.Name x M) X.env) Q E s:=by
 obtain⟨mb,h1,h2⟩:=I.mod.blt;exact Calls.Name_function_global I.ok.kind O (Calls.loadGlobal_builtin (by rw[I.ok.glob];exact I.mod.glob.keeps I.bk) hm (by rw[I.ok.blt];exact h1.keeps I.bk) ((h2 x hn).trans hv) h) hd
theorem pw (M:Gl X x)(hm:X.mg x=some u)(r:aG v u)(hd:(x == ("__debug__" : Str))=false:=by decide):PE X (.Name x O) (tC v):=
 λ_ _ _ H _ I h=>uA I M hm ⟨v,H,I,r,h⟩ hd
theorem KP (M:Gl X x)(hm:X.mg x=none)(hv:bootBuiltins x=some u)(r:aG v u)(hn:x ≠ "__name__":=by decide)(hd:(x == ("__debug__" : Str))=false:=by decide):PE X (.Name x O) (tC v):=
 λ_ _ _ H _ I h=>fK I M hm hv ⟨v,H,I,r,h⟩ hn hd
def t2I (ta tb:TE)(k:Int->Int->Hp->Prop):St->Hp->Prop:=λσ H=>ta σ H λx M=>tb σ M λy H2=>∃i j,x=.int i/\y=.int j/\k i j H2
variable {a b:Expr}{ta tb:TE}{pos:Pos}
def PC (X:Cx)(op:CmpOp)(a b:Expr)(t:TE):Prop:=
 ∀(af:AO)(s:Shared)(σ:St)(H:Hp)(Q:VK),Inv X af σ H s->t σ H Q ->
  wq X (eval a X.env) (λv M=>wq X (eval b X.env) (λu O=>wq X (compareOp op v u) (EP X af σ Q) X.xe O) X.xe M) X.xe s
theorem jh (b:Expr){op:CmpOp}(h:op≠.In)(h2:op≠.NotIn):behindInMarks op b=false:=by
 have M:(op == CmpOp.In)=false:=by simp_all
 have e2:(op == CmpOp.NotIn)=false:=by simp_all
 cases b<;>simp[behindInMarks,M,e2]
def WQ (p:Int->Int->Bool)(ta tb:TE):TE:=λσ H Q=>t2I ta tb (λi j H2=>Q (.bl (p i j)) H2) σ H
abbrev WR:TE->TE->TE:=WQ λi j=>decide (i<j)
def tB (t:TE):TT:=λσ H Q=>t σ H λx M=>∃c,x=.bl c/\Q c M
theorem OF (h:PC X op a b t)(h1:behindInMarks op b=false:=by first|exact jh _ Z9 Z9|rfl):PE X (.Compare a [op] [b] pos) t:=λaf s σ H Q I hw=>wpAny_Compare1 (h _ s σ H Q I hw) h1
theorem OG {e:Expr}{t:TE}(h:PE X e t)(he:∀M,isTrue e X.env M=(do let v <-M;standAt e.pos;holding [v] (truthy v)):=by intro _;rfl):PT X e (tB t):=by
 intro af s σ H Q I hw;refine isTrue_plain (bJ (h _ s σ H _ I hw) λv s1 ⟨x,O,U,c,f⟩=>?_) (he _);obtain⟨d,rfl,q⟩:=f;cases c
 exact wpAny_truthy_bool ⟨O,U,q⟩
variable {tA Ww:TT}{ag:QD}
def SU (t u:TT):TT:=λσ H Q=>t σ H λc M=>if c=true then u σ M Q else Q false M
def Za (t u:TT):TT:=λσ H Q=>t σ H λc M=>if c=true then Q true M else u σ M Q
def SW (t:TT):TT:=λσ H Q=>t σ H λc M=>Q (!c) M
theorem KQ (ha:PT X a tA):PW X (.BoolOp .And [a] pos) tA:=by
 intro wh af s σ H Q I h;refine isTrue_and (bJ (ha _ s σ H Q I h) λc s1 e=>?_);grind[isTrue_and_nil]
theorem OH (ha:PT X a tA):PW X (.BoolOp .Or [a] pos) tA:=by
 intro wh af s σ H Q I h;refine isTrue_or (bJ (ha _ s σ H Q I h) λc s1 e=>?_);grind[isTrue_or_nil]
theorem OJ (ha:PT X a tA)(hb:PW X (.BoolOp .And (b::ag) pos) Ww):PW X (.BoolOp .And (a::b::ag) pos) (SU tA Ww):=by
 intro wh af s σ H Q I h;refine isTrue_and (bJ (ha _ s σ H _ I h) λc s1 ⟨M,O,U⟩=>?_);cases c with
 |true=>exact hb wh _ s1 σ M Q O U
 |false=>exact⟨M,O,U⟩
theorem SX (ha:PT X a tA)(hb:PW X (.BoolOp .Or (b::ag) pos) Ww):PW X (.BoolOp .Or (a::b::ag) pos) (Za tA Ww):=by
 intro wh af s σ H Q I h;refine isTrue_or (bJ (ha _ s σ H _ I h) λc s1 ⟨M,O,U⟩=>?_);cases c with
 |true=>exact⟨M,O,U⟩
 |false=>exact hb wh _ s1 σ M Q O U
theorem OK (ha:PT X a tA):PT X (.UnaryOp .Not a pos) (SW tA):=by
 intro af s σ H Q I h;exact isTrue_not (ha _ s σ H _ I h)
def SY (ta tb:TE):TE:=λσ H Q=>ta σ H λx M=>∃c,x=.bl c/\if c=true then tb σ M Q else Q (.bl false) M
def WT (ta tb:TE):TE:=λσ H Q=>ta σ H λx M=>∃c,x=.bl c/\if c=true then Q (.bl true) M else tb σ M Q
def Ta (ta:TE):TE:=λσ H Q=>ta σ H λx M=>∃c,x=.bl c/\Q (.bl (!c)) M
theorem OL {op}(h:PE X a t):PE X (.BoolOp op [a] pos) t:=λaf s σ H Q I hw=>BoolOp_one (h _ s σ H Q I hw)
theorem OM (ha:PE X a ta)(hb:PE X (.BoolOp .And (b::ag) pos) tb):PE X (.BoolOp .And (a::b::ag) pos) (SY ta tb):=by
 intro af s σ H Q I h;refine BoolOp_and (bJ (ha _ s σ H _ I h) λv s1 ⟨x,O,U,d,M⟩=>?_);obtain⟨c,rfl,M⟩:=M;cases d
 refine wpAny_truthy_bool ?_;cases c with
 |true=>exact hb _ s1 σ O Q U M
 |false=>exact⟨.bl _,O,U,rr,M⟩
theorem Tc (ha:PE X a ta)(hb:PE X (.BoolOp .Or (b::ag) pos) tb):PE X (.BoolOp .Or (a::b::ag) pos) (WT ta tb):=by
 intro af s σ H Q I h;refine BoolOp_or (bJ (ha _ s σ H _ I h) λv s1 ⟨x,O,U,d,M⟩=>?_);obtain⟨c,rfl,M⟩:=M;cases d
 refine wpAny_truthy_bool ?_;cases c with
 |false=>exact hb _ s1 σ O Q U M
 |true=>exact⟨.bl _,O,U,rr,M⟩
theorem ON (ha:PE X a ta):PE X (.UnaryOp .Not a pos) (Ta ta):=by
 intro af s σ H Q I h;refine UnaryOp_ (bJ (ha _ s σ H _ I h) λv s1 ⟨x,O,U,d,M⟩=>?_);obtain⟨c,rfl,M⟩:=M;cases d
 exact not_of (wpAny_truthy_bool ⟨.bl _,O,U,rr,M⟩)
end
def dW (K:Frag)(H:Hp)(a:Addr)(xs:List V):Prop:=
 Rd H a (.lst xs) \/
  ∃(o:Obj)(its:AV)(n:Nat),K.lookup a=some o/\o.cls=.type "list"/\o.dict=none/\o.data=.seq its n/\its.size<=sizeLine/\aF xs its.toList
def fL (K:Frag)(H:Hp)(a:Addr)(xs:List V):Prop:=
 Rd H a (.tup xs) \/
  ∃(o:Obj)(its:AV)(n:Nat),K.lookup a=some o/\o.cls=.type "tuple"/\o.data=.seq its n/\its.size<=sizeLine/\aF xs its.toList
noncomputable def WU:Value->Option V
 |.none=>some .non
 |.bool b=>some (.bl b)
 |.int i _=>some (.int i)
 |.str x _=>some (.str x)
 |.bytes b _=>some (.byt b)
 |.float b _=>some (.flt b)
 |.ref a=>some (.ref a)
 |.type n=>some (.ty n)
 |_=>none
theorem aG.abs (r:aG x u):WU u=some x:=by
 cases x with
 |non=>cases r;rfl
 |bl _=>cases r;rfl
 |int _=>obtain⟨t,rfl⟩:=r;rfl
 |str _=>obtain⟨t,rfl⟩:=r;rfl
 |byt _=>obtain⟨t,rfl⟩:=r;rfl
 |flt _=>obtain⟨t,rfl⟩:=r;rfl
 |ref _=>cases r;rfl
 |ty _=>cases r;rfl
theorem aG.inj (r:aG x u)(q:aG y u):x=y:=vK (r.abs.symm.trans q.abs)
theorem aF.inj:∀ {xs ys:List V}{us:LU},aF xs us->aF ys us->xs=ys
 |_,_,_,.nil,.nil=>rr
 |_,_,_,.cons r t,.cons M t'=>by rw[r.inj M,aF.inj t t']
section
variable {X:Cx}{af:AO}{σ:St}{H:Hp}{s:Shared}{a:Addr}{xs ys:List V}
theorem dW.of {K:Frag}(h:H a=some (.lst xs)):dW K H a xs:=.inl (.inl h)
theorem fL.of {K:Frag}(h:H a=some (.tup xs)):fL K H a xs:=.inl (.inl h)
theorem Inv.list (I:Inv X af σ H s)(h:dW X.K H a xs):∃its:LU,aF xs its/\PlainL s.heap a its.toArray/\xs.length<=sizeLine:=by
 rcases h with h|⟨o,its,n,hk,hc,hd,hs,hz,r⟩
 .obtain⟨z,its,n,r,e⟩:=h.ok I.hok;exact⟨its,r,⟨_,n,e,rr,rr,rr⟩,z⟩
 .refine⟨its.toList,r,⟨o,n,I.kIn a o hk,hc,hd,by simpa using hs⟩,?_⟩;have e:=r.length;simp_all
theorem Inv.tuple (I:Inv X af σ H s)(h:fL X.K H a xs):∃its:LU,aF xs its/\IsTup s.heap a its.toArray/\xs.length<=sizeLine:=by
 rcases h with h|⟨o,its,n,hk,hc,hs,hz,r⟩
 .obtain⟨z,its,r,p⟩:=h.ok I.hok;exact⟨its,r,p,z⟩
 .refine⟨its.toList,r,⟨o,I.kIn a o hk,hc,n,by simpa using hs⟩,?_⟩;have e:=r.length;simp_all
theorem Inv.list_inj (I:Inv X af σ H s)(h:dW X.K H a xs)(h':dW X.K H a ys):xs=ys:=by
 obtain⟨its,r,⟨o,n,e,_,_,d⟩,_⟩:=I.list h;obtain⟨its',M,⟨o',U,O,_,_,d'⟩,_⟩:=I.list h';rw[e]at O;have:its=its':=by simp_all
 subst this;exact r.inj M
theorem Inv.tuple_inj (I:Inv X af σ H s)(h:fL X.K H a xs)(h':fL X.K H a ys):xs=ys:=by
 obtain⟨its,r,⟨o,e,_,n,d⟩,_⟩:=I.tuple h;obtain⟨its',M,⟨o',O,_,U,d'⟩,_⟩:=I.tuple h';rw[e]at O;have:its=its':=by simp_all
 subst this;exact r.inj M
end
noncomputable abbrev Cx.wish (X:Cx)(E:QV):Cx:={ X with xe:=E }
noncomputable abbrev Cx.nox (X:Cx):Cx:=X.wish λ_ _=>False
theorem Cx.Ok.wish {X:Cx}(ok:X.Ok)(E:QV):(X.wish E).Ok:=
 ⟨ok.mod,ok.kind,ok.glob,ok.blt,ok.above,ok.inj,ok.has,ok.cab,ok.hd,ok.frames,ok.stk,ok.exf,ok.bs,ok.bsz,ok.noex,ok.exfs,ok.funs,ok.frf⟩
theorem Cx.Ok.unwish {X:Cx}{E:QV}(ok:(X.wish E).Ok):X.Ok:=
 ⟨ok.mod,ok.kind,ok.glob,ok.blt,ok.above,ok.inj,ok.has,ok.cab,ok.hd,ok.frames,ok.stk,ok.exf,ok.bs,ok.bsz,ok.noex,ok.exfs,ok.funs,ok.frf⟩
section
variable {X:Cx}{af:AO}{σ:St}{H:Hp}{s:Shared}{E:QV}
theorem Inv.wish (I:Inv X af σ H s)(E:QV):Inv (X.wish E) af σ H s:=⟨I.ok.wish E,I.os,I.bare,I.base,I.loc,I.cell,I.free,I.freeC,I.pin,I.hok,I.len⟩
theorem Inv.unwish (I:Inv (X.wish E) af σ H s):Inv X af σ H s:=⟨I.ok.unwish,I.os,I.bare,I.base,I.loc,I.cell,I.free,I.freeC,I.pin,I.hok,I.len⟩
theorem SP.unwish (h:SP (X.wish E) af D f s'):SP X af D f s':=by
 cases f with
 |next=>obtain⟨M,H',I,q⟩:=h;exact⟨M,H',I.unwish,q⟩
 |brk=>obtain⟨M,H',I,q⟩:=h;exact⟨M,H',I.unwish,q⟩
 |cont=>obtain⟨M,H',I,q⟩:=h;exact⟨M,H',I.unwish,q⟩
 |ret u=>obtain⟨v,M,H',I,r,q⟩:=h;exact⟨v,M,H',I.unwish,r,q⟩
theorem sU.nox {st:List Stmt}{t:TS}(h:sU X.nox st t):sU X st t:=λaf s σ H D I hw=>
 wpAny_mono (h _ s σ H D (I.wish _) hw) (λ_ _ q=>q.unwish) λ_ _ z=>False.elim z
end
section
variable {X:Cx}{st:Stmt}{ag:List Stmt}{t u:TS}{e:Expr}{te:TE}{pos:Pos}
def NG:TS:=λD σ H=>D.nx σ H
def Td (t u:TS):TS:=λD σ H=>t { D with nx:=u D } σ H
theorem KR:sU X [] NG:=λ_ _ σ H _ I h=>wpAny_execs_nil ⟨σ,H,I,h⟩
theorem Fi (h1:PS X st t)(h2:sU X ag u):sU X (st::ag) (Td t u):=by
 intro af s σ H D I h;refine wpAny_execs_cons (bJ (h1 _ s σ H _ I h) λf s1 q=>?_);cases f with
 |next=>
  obtain⟨M,H',O,q⟩:=q;exact h2 _ s1 _ H' D O q
 |ret v=>exact q
 |brk=>exact q
 |cont=>exact q
theorem KS (h1:PS X st t):sU X [st] t:=by
 intro af s σ H D I h;refine wpAny_execs_cons (bJ (h1 _ s σ H D I h) λf s1 q=>?_);cases f with
 |next=>exact wpAny_execs_nil q
 |ret v=>exact q
 |brk=>exact q
 |cont=>exact q
def Te:TS:=λD σ H=>D.ct σ H
theorem xC:PS X (.Continue pos) Te:=λ_ _ σ H _ I h=>wpAny_Continue ⟨σ,H,I,h⟩
theorem Inv.quiet (I:Inv X af σ H s):interactive X.env=false:=by simp[interactive,I.ok.kind]
def Tf (te:TE):TS:=λD σ H=>te σ H λ_ M=>D.nx σ M
theorem uB (he:PE X e te)(hs:swapsWith e none pos.line X.env=pure false:=by rfl):PS X (.Expr e pos) (Tf te):=by
 intro af s σ H D I h;exact wpAny_Expr_any (bJ (he _ s σ H _ I h) λv s1 ⟨x,M,O,a,U⟩=>⟨σ,M,O,U⟩) I.quiet hs
def OO (te:TE):TS:=λD σ H=>te σ H D.rt
theorem Fj (he:PE X e te):PS X (.Return (some e) pos) (OO te):=by
 intro af s σ H D I h;exact wpAny_Return_some (bJ (he _ s σ H _ I h) λv s1 ⟨x,M,O,U,a⟩=>⟨x,σ,M,O,U,a⟩)
def Tg (c:TT)(t u:TS):TS:=λD σ H=>c σ H λb M=>if b=true then t D σ M else u D σ M
theorem Th {c:Expr}{a b:List Stmt}{M:TT}(hc:PT X c M)(ha:sU X a t)(hb:sU X b u):PS X (.If c a b pos) (Tg M t u):=by
 intro af s σ H D I h;refine wpAny_If (bJ (hc _ s σ H _ I h) λd s1 ⟨O,U,f⟩=>?_);cases d with
 |true=>exact ha _ s1 σ O D U f
 |false=>exact hb _ s1 σ O D U f
end
abbrev TG:=V->St->Hp->(St->Hp->Prop)->Prop
abbrev NH:=List V->St->Hp->(St->Hp->Prop)->Prop
def PG (X:Cx)(M:Expr)(t:TG):Prop:=
 ∀(af:AO)(s:Shared)(σ:St)(H:Hp)(v:V)(u:Value)(Q:St->Hp->Prop),Inv X af σ H s->aG v u->t v σ H Q ->
  wq X (assign M X.env u) (λ_ s'=>∃O H',Inv X af O H' s'/\Q O H') X.xe s
def Ti (X:Cx)(O:QD)(t:NH):Prop:=
 ∀(af:AO)(s:Shared)(σ:St)(H:Hp)(vs:List V)(us:LU)(Q:St->Hp->Prop),Inv X af σ H s->aF vs us->t vs σ H Q ->
  wq X (assignInOrder ((assignEach O X.env).map (·.2)) us) (λ_ s'=>∃M H',Inv X af M H' s'/\Q M H') X.xe s
abbrev OP:=V->V->V->Hp->(Hp->Prop)->Prop
def Tj (X:Cx)(t:OP):Prop:=
 ∀(af:AO)(s:Shared)(σ:St)(H:Hp)(o i v:V)(M iv u:Value)(Q:Hp->Prop),Inv X af σ H s->aG o M->aG i iv->aG v u->t o i v H Q ->
  wq X (setItem M iv u) (λ_ s'=>∃H',Inv X af σ H' s'/\Q H') X.xe s
section
variable {X:Cx}{pos:Pos}
def gQ (i:Nat):TG:=λv σ H Q=>Q (σ.set i (some v)) H
theorem Bo (M:X.N.Nodup)(hi:X.N[i]? = some x)(hx:K6 X.env.scope x)(hf:X.fn x=true\/X.env.scope.names.lookup x=some .local:=by first|exact .inl rr|exact .inr rr|assumption):PG X (.Name x pos) (gQ i):=by
 intro af s σ H v u Q I r h;exact wpAny_assign_Name (xB I M hi hx r (λs' O=>⟨_,H,O,h⟩) hf)
def Tk:NH:=λvs σ H Q=>vs=[]/\Q σ H
def NI (t:TG)(u:NH):NH:=λvs σ H Q=>∃v r,vs=v::r/\t v σ H λM H'=>u r M H' Q
theorem px:Ti X [] Tk:=by
 intro af s σ H vs us Q I r h;obtain⟨e,h⟩:=h;exact assignInOrder_nil ⟨σ,H,I,h⟩
theorem eM {e:Expr}{es:QD}{t:TG}{u:NH}(h1:PG X e t)(h2:Ti X es u)
  (hs:(assignEach (e::es) X.env).map (·.2)=assign e X.env::(assignEach es X.env).map (·.2):=by rfl):Ti X (e::es) (NI t u):=by
 intro af s σ H vs us Q I r h;obtain⟨v,d,M,h⟩:=h;subst M;cases r with
 |cons r O=>
  rw[hs];refine assignInOrder_cons (bJ (h1 _ s σ H _ _ _ I r h) λ_ s1 ⟨U,a,b,c⟩=>?_);exact h2 _ s1 _ a _ _ Q b O c
def Fk (K:Frag)(n:Nat)(t:NH):TG:=λv σ H Q=>∃a xs,v=.ref a/\fL K H a xs/\xs.length=n/\t xs σ H Q
theorem zP (hc:X.calm=true)(h:Ti X es t)
  (hn:(assignEach es X.env).length=n:=by rfl) (M:(assignEach es X.env).findIdx? (·.1)=none:=by rfl):PG X (.Tuple es k pos) (Fk X.K n t):=by
 intro af s σ H v u Q I r hw;obtain⟨a,xs,U,hq,hl,hw⟩:=hw;subst U;cases r
 obtain⟨its,O,c,hz⟩:=I.tuple hq;refine assign_Tuple_tuple (I.ok.hd hc) c (by simp[hn,<-hl,O.length]) M λh' hx=>?_;have d:=I.kept (t':=s.toks) λb o e=>hx b o (vS (vX e)) e;exact h _ _ σ H xs _ Q d (by simpa using O) hw
def WV (to ti:TE)(t:OP):TG:=λv σ H Q=>to σ H λo M=>ti σ M λi H2=>t o i v H2 λO=>Q σ O
theorem OQ {o i:Expr}{to ti:TE}{t:OP}(ho:PE X o to)(hi:PE X i ti)(hs:Tj X t)
  (ha:∀v,assign (.Subscript o i pos) X.env v=(do
   let M <-holding [v] (eval o X.env)
   let iv <-holding [v,M] (eval i X.env)
   standAt pos
   holding [v,M,iv] (setItem M iv v)
   release [v,M,iv] []):=by intro _;rfl):PG X (.Subscript o i pos) (WV to ti t):=by
 intro af s σ H v u Q I r h;refine wX (wpAny_holding (bJ (ho _ s σ H _ I h) λM s1 ⟨x,O,U,a,b⟩=>?_));refine wX (wpAny_holding (bJ (hi _ s1 σ O _ U b) λiv s2 ⟨y,H2,c,d,q2⟩=>?_));refine wX (wpAny_standAt (wX (wpAny_holding (bJ (hs _ s2 σ H2 x y v M iv u _ c a d r q2) λ_ j ⟨e,f,g⟩=>?_))));exact wpAny_release ⟨σ,e,f,g⟩
def zQ (M:TE)(g:TG):TS:=λD σ H=>M σ H λx O=>g x σ O D.nx
theorem Fl {tg e:Expr}{M:TE}{g:TG}(he:PE X e M)(O:PG X tg g)(hs:swapsWithSole [tg] e pos.line X.env=pure false:=by rfl)(hw:swappedStores [tg] e X.env=pure none:=by rfl)
  (h1:(assignEach [tg] X.env).map (·.2)=[assign tg X.env]:=by rfl):PS X (.Assign [tg] e pos) (zQ M g):=by
 intro af s σ H D I h;refine wpAny_Assign_stores (bJ (he _ s σ H _ I h) λv s1 ⟨x,U,a,b,c⟩=>?_) hs hw;rw[h1];exact bJ (O _ s1 σ U x v _ a b c) λ_ s2 q=>q
theorem uC {i:Nat}{x:Str}{e:Expr}{O:TE}{M:Pos}(U:X.N.Nodup)(hi:X.N[i]? = some x)(hx:K6 X.env.scope x)(he:PE X e O)(hs:swapsWith e (some (.Name x M)) pos.line X.env=pure false:=by rfl)(hf:X.fn x=true\/X.env.scope.names.lookup x=some .local:=by first|exact .inl rr|exact .inr rr|assumption):
  PS X (.Assign [.Name x M] e pos) (zQ O (gQ i)):=by
 intro af s σ H D I h;refine wpAny_Assign_Name (bJ (he _ s σ H _ I h) λv s1 ⟨y,a,b,c,d⟩=>?_) hs;exact xB b U hi hx c (λs2 f=>⟨_,a,f,d⟩) hf
end
section
variable {X:Cx}{pos:Pos}
def Fm (c:TT)(tb:TS):TS:=λD σ H=>∃W:Nat->St->Hp->Prop,(∃m,W m σ H)/\∀m σ H,W m σ H ->
 c σ H λb O=>if b=true then ∃N:St->Hp->Prop,(∀M H',N M H'->∃U,U<m/\W U M H')/\tb { D with nx:=N,ct:=N,bk:=D.nx } σ O else D.nx σ O
theorem Fo {c:Expr}{M:List Stmt}{l:TT}{tb:TS}(hp:PassesOwn (model X.prog X.w) X.A X.env X.xe)(hc:PT X c l)(hb:sU X M tb):PS X (.While c M [] pos) (Fm l tb):=by
 intro af s σ H D I h;obtain⟨W,⟨q,r⟩,U⟩:=h;refine wpAny_While (codeAny_whileLoop (λn s'=>∃a H',Inv X _ a H' s'/\W n a H') ?_ q ⟨σ,H,I,r⟩);rintro n s1 ⟨g,m,t,u⟩;refine wpAny_passesOwn hp (bJ (hc _ s1 _ m _ t (U n _ m u)) λb s2 ⟨H2,o,q2⟩=>?_);cases b with
 |true=>
  obtain⟨N,p,q2⟩:=q2;refine wpAny_passesOwn hp (bJ (hb _ s2 _ H2 _ o q2) λf x e=>?_);cases f with
  |next=>
   obtain⟨O,d,i,n3⟩:=e;obtain⟨j,hm,k⟩:=p _ d n3;exact⟨j,hm,O,d,i,k⟩
  |cont=>
   obtain⟨O,d,i,n3⟩:=e;obtain⟨j,hm,k⟩:=p _ d n3;exact⟨j,hm,O,d,i,k⟩
  |brk=>exact e
  |ret v=>exact e
 |false=>
  exact wpAny_execs_nil ⟨g,H2,o,q2⟩
end
structure It where
 go:Nat->Hp->Prop
 yld:Nat->Hp->V->Hp->Prop
 stop:Nat->Hp->Prop
def kU (X:Cx)(af:AO)(H:Hp)(b:Addr):Prop:=
 H b=none/\b≠X.env.locals/\b∉X.fs/\(b∈X.ex\/X.s₀.z<=b)/\(∀x c,X.env.cells.lookup x=some c->c≠b)/\∀p∈X.pn++af,p.1≠b
theorem Inv.fpOk (I:Inv X af σ H s)(hb:s.z<=b)(hn:H' b=none):kU X af H' b:=by
 refine⟨hn,ne_of_gt (vQ I.lt hb),I.nofs hb,.inr (vR I.sz hb),λx c e z=>?_,λp hp z=>?_⟩
 .obtain⟨v,q⟩:=I.cell x c e;exact absurd (vQ q.lt (by rw[z];exact hb)) (Nat.lt_irrefl _)
 .exact absurd (vQ (vX (I.pin p hp).1) (by rw[z];exact hb)) (Nat.lt_irrefl _)
structure Turn (P:Program)(w:World)(K:Frag)(tg:Expr)(J:It)(fp:List Addr)(it:Addr)(tn:Nat->Heap->Prop):Prop where
 mem:it∈fp
 obj:∀i h,tn i h->∀b∈fp,∃o,h.get? b=some o/\∀v,o.data≠.cell v
 keep:∀i h h',tn i h->(∀b∈fp,∀o,h.get? b=some o->h'.get? b=some o)->tn i h'
 item:∀(X:Cx),X.prog=P->X.w=w->X.K=K->X.calm=true->∀(i:Nat)(af:List (Addr×Obj))(s:Shared)(σ:St)(H:Hp)(E:Value->Shared->Prop),Inv X af σ H s->(∀b∈fp,kU X af H b)->tn i s.heap->J.go i H ->
  wpAny (model P w) X.A (pyNext (.ref it)) (λr s1=>∃u,r=some u /\
   wpAny (model P w) X.A (letOwnedTupleGo tg (.ref it) u) (λ_ s2=>∃x H',Inv X af σ H' s2/\aG x u/\J.yld i H x H'/\tn (i+1) s2.heap/\∀b∈fp,H' b=none) E s1) E s
 done:∀(X:Cx),X.prog=P->X.w=w->X.K=K->X.calm=true->∀(i:Nat)(af:List (Addr×Obj))(s:Shared)(σ:St)(H:Hp)(E:Value->Shared->Prop),Inv X af σ H s->(∀b∈fp,kU X af H b)->tn i s.heap->J.stop i H ->
  wpAny (model P w) X.A (pyNext (.ref it)) (λr s1=>r=none/\Inv X af σ H s1) E s
 self:∀(A:Around)(i:Nat)(s:Shared)(Q:Value->Shared->Prop)(E:Value->Shared->Prop),tn i s.heap->Q (.ref it) s->wpAny (model P w) A (pyIter (.ref it)) Q E s
abbrev TI:=St->Hp->(It->Hp->Prop)->Prop
def Zb (X:Cx)(af:AO)(σ:St)(tg:Expr)(R:It->Hp->Prop)(M:Value)(s2:Shared):Prop:=
 ∃(it:Addr)(fp:List Addr)(tn:Nat->Heap->Prop)(J:It)(H':Hp),M=.ref it/\Inv X af σ H' s2/\Turn X.prog X.w X.K tg J fp it tn/\tn 0 s2.heap/\(∀b∈fp,kU X af H' b)/\R J H'
def PI (X:Cx)(tg M:Expr)(O:TI):Prop:=
 ∀(af:AO)(s:Shared)(σ:St)(H:Hp)(R:It->Hp->Prop),Inv X af σ H s->O σ H R ->
  wq X (eval M X.env) (λv s1=>wq X (pyIter v) (Zb X af σ tg R) X.xe s1) X.xe s
theorem pH (ho:s.heap.get? it=some o)(hc:o.cls=.type n)(hd:o.data=.fields vs)
    (hn:["enumerate","zip","dict_itemiterator","dict_reverseitemiterator","odict_iterator","itertools.zip_longest","itertools.pairwise"].contains n=false) (O:Q () s):wpAny M A (letOwnedTupleGo tg (.ref it) u) Q E s:=by
  cases tg<;>first
    |exact wY O
    | (cases u<;>first
        |exact wY O
        | (refine wX (wpAny_load ho ?_)
           rw[hc,hd]
           show wpAny M A (if(["enumerate","zip","dict_itemiterator","dict_reverseitemiterator","odict_iterator","itertools.zip_longest","itertools.pairwise"].contains n && vs[0]? == some _)=true then _ else _) Q E s
           rw[if_neg (by intro h;rw[hn]at h;cases h)]
           exact wY O))
noncomputable def Zc (K:Frag)(a:Addr):It:=
 ⟨λi H=>∃xs x,dW K H a xs/\xs[i]? = some x,λi H x H'=>H'=H/\∀xs,dW K H a xs->xs[i]? = some x,λi H=>∃xs,dW K H a xs/\xs.length<=i⟩
noncomputable def Zd (K:Frag)(a:Addr):It:=
 ⟨λi H=>∃xs x,fL K H a xs/\xs[i]? = some x,λi H x H'=>H'=H/\∀xs,fL K H a xs->xs[i]? = some x,λi H=>∃xs,fL K H a xs/\xs.length<=i⟩
noncomputable def Wi (lo:Int)(n:Nat):It:=⟨λi _=>i<n,λi H x H'=>H'=H/\x=.int (lo+i),λi _=>n<=i⟩
theorem D2 {P:Program}{w:World}{K:Frag}{tg:Expr}(a it:Addr):Turn P w K tg (Zc K a) [it] it (λi h=>h.IsListIter it a i) where
 mem:=V9
 obj:=λi h st b hb=>by
  have e:=by simpa using hb
  obtain⟨o,e,c,d⟩:=st;simp_all
 keep:=λi h h' st k=>st.at λo e=>k it V9 o e
 item:=by
  intro X O hw U hc i af s σ H E I hf st f;subst O hw U;obtain⟨xs,x,hq,hx⟩:=f;obtain⟨its,g,p,hz⟩:=I.list hq;obtain⟨u,hu,ru⟩:=g.get hx;obtain⟨j,f1,f2,l,m,n⟩:=hf it V9;refine wpAny_pyNext_list_item st p.isList (by simpa using hu) λh' M q=>?_;have r:=I.turned (t':=s.toks) (λb o hb e=>(q.2 b hb).trans e) j f1 l m n;obtain⟨o,e,c,d⟩:=id M;exact⟨u,rr,pH e c d Z9 ⟨x,H,r,ru,⟨rr,λys hy=>by rw[I.list_inj hy hq];exact hx⟩,M,λb hb=>(hf b hb).1⟩⟩
 done:=by
  intro X O hw U hc i af s σ H E I hf st f;subst O hw U;obtain⟨xs,hq,hx⟩:=f;obtain⟨its,g,p,hz⟩:=I.list hq;obtain⟨j,f1,f2,l,m,n⟩:=hf it V9;have hl:=g.length;exact wpAny_pyNext_list_end (I.ok.hd hc) st p.isList Y9 λh' t=>⟨rr,I.turned (λb o hb e=>t b o hb e) j f1 l m n⟩
 self:=λ_ _ _ _ _ st h=>wpAny_pyIter_listiter st h
theorem zR {P:Program}{w:World}{K:Frag}{tg:Expr}(a it:Addr):Turn P w K tg (Zd K a) [it] it (λi h=>h.IsTupleIter it a i) where
 mem:=V9
 obj:=λi h st b hb=>by
  have e:=by simpa using hb
  obtain⟨o,e,c,d⟩:=st;simp_all
 keep:=λi h h' st k=>st.at λo e=>k it V9 o e
 item:=by
  intro X O hw U hc i af s σ H E I hf st f;subst O hw U;obtain⟨xs,x,hq,hx⟩:=f;obtain⟨its,g,p,hz⟩:=I.tuple hq;obtain⟨u,hu,ru⟩:=g.get hx;obtain⟨j,f1,f2,l,m,n⟩:=hf it V9;refine wpAny_pyNext_tuple_item st (show s.heap.IsTuple a _ from p) (by simpa using hu) λh' M q=>?_;have r:=I.turned (t':=s.toks) (λb o hb e=>(q.2 b hb).trans e) j f1 l m n;obtain⟨o,e,c,d⟩:=id M;exact⟨u,rr,pH e c d Z9 ⟨x,H,r,ru,⟨rr,λys hy=>by rw[I.tuple_inj hy hq];exact hx⟩,M,λb hb=>(hf b hb).1⟩⟩
 done:=by
  intro X O hw U hc i af s σ H E I hf st f;subst O hw U;obtain⟨xs,hq,hx⟩:=f;obtain⟨its,g,p,hz⟩:=I.tuple hq;obtain⟨j,f1,f2,l,m,n⟩:=hf it V9;have hl:=g.length;exact wpAny_pyNext_tuple_end (I.ok.hd hc) st (show s.heap.IsTuple a _ from p) Y9 λh' t=>⟨rr,I.turned (λb o hb e=>t b o hb e) j f1 l m n⟩
 self:=λ_ _ _ _ _ st h=>wpAny_pyIter_tupleiter st h
theorem zS {P:Program}{w:World}{K:Frag}{tg:Expr}(it:Addr)(lo:Int)(n:Nat):Turn P w K tg (Wi lo n) [it] it (λi h=>IsRangeIter h it (lo+(i:Nat)*1) ((n:Int) - (i:Nat)) 1) where
 mem:=V9
 obj:=λi h st b hb=>by
  simp_all
 keep:=λi h h' st k=>k it V9 _ st
 item:=by
  intro X f hw g hc i af s σ H E I hf st O;subst f hw g;obtain⟨U,f1,f2,a,c,d⟩:=hf it V9;have W:=Walks.range (prog:=X.prog) (w:=X.w) (I.ok.hd hc) it lo 1 n;refine W.item i s _ _ O st λv h' tk hv M j=>?_;obtain⟨t,rfl⟩:=hv;have l:Inv X _ σ H { s with heap:=h',toks:=tk }:=I.turned (λb o hb e=>j b o (by simpa using hb) e) U f1 a c d;refine⟨_,rr,pH M rr rr Z9 ⟨.int _,H,l,⟨t,?_⟩,⟨rr,rr⟩,M,λb hb=>(hf b hb).1⟩⟩;simp
 done:=by
  intro X f hw g hc i af s σ H E I hf st O;obtain⟨U,f1,f2,a,c,d⟩:=hf it V9;exact wpAny_pyNext_range_end (I.ok.hd hc) st (by have:n<=i:=O;lia) λh' m=>⟨rr,I.turned (λb o hb e=>m b o hb e) U f1 a c d⟩
 self:=λ_ _ _ _ _ st h=>wpAny_pyIter_rangeiter st h
section
variable {X:Cx}{tg:Expr}
def Tl (K:Frag)(tl:TE):TI:=λσ H R=>tl σ H λx M=>∃a,x=.ref a/\(∃xs,dW K M a xs)/\R (Zc K a) M
def WW (K:Frag)(tl:TE):TI:=λσ H R=>tl σ H λx M=>∃a,x=.ref a/\(∃xs,fL K M a xs)/\R (Zd K a) M
theorem KU {l:Expr}{tl:TE}(hl:PE X l tl):PI X tg l (Tl X.K tl):=by
 intro af s σ H R I h;refine bJ (hl _ s σ H _ I h) λv s1 ⟨x,O,M,U,c⟩=>?_;obtain⟨a,e,⟨xs,hq⟩,q⟩:=c;subst e;cases U
 obtain⟨its,d,p,hz⟩:=M.list hq;refine wpAny_pyIter_list p.isList ?_;refine⟨s1.z,[s1.z],_,_,O,rr,M.kept λb o e=>vZ _ e,D2 a _,⟨_,vY _ rr,rr,rr⟩,λb hb=>?_,q⟩;have e:=by simpa using hb
 subst e;exact M.fpOk (vT _) (M.hok.fresh (vT _))
theorem OR {l:Expr}{tl:TE}(hl:PE X l tl):PI X tg l (WW X.K tl):=by
 intro af s σ H R I h;refine bJ (hl _ s σ H _ I h) λv s1 ⟨x,O,M,U,c⟩=>?_;obtain⟨a,e,⟨xs,hq⟩,q⟩:=c;subst e;cases U
 obtain⟨its,d,p,hz⟩:=M.tuple hq;refine wpAny_pyIter_tuple (show s1.heap.IsTuple a _ from p) ?_;refine⟨s1.z,[s1.z],_,_,O,rr,M.kept λb o e=>vZ _ e,zR a _,⟨_,vY _ rr,rr,rr⟩,λb hb=>?_,q⟩;have e:=by simpa using hb
 subst e;exact M.fpOk (vT _) (M.hok.fresh (vT _))
theorem Fp {af:AO}{σ:St}{H:Hp}{s:Shared}{R:It->Hp->Prop}{E:QV}{lo hi:Int}{t u v:Tok}{tk:Nat}(I:Inv X af σ H s)(h1 : -(2 ^ 62)<=lo)(h2:lo<2 ^ 62)(h3 : -(2 ^ 62)<=hi)(h4:hi<2 ^ 62)
  (q:R (Wi lo (hi - lo).toNat) H):wq X (pyIter (.ref s.z)) (Zb X af σ tg R) E { s with heap:=s.heap.push { cls:=.type "range",data:=.fields #[.int lo t,.int hi u,.int 1 v] },toks:=tk }:=by
 refine wpAny_pyIter_range (IsRange.new ..) (small_one h1 h2 h3 h4) ?_;have M:Inv X _ σ H { s with heap:=s.heap.push { cls:=.type "range",data:=.fields #[.int lo t,.int hi u,.int 1 v] },toks:=tk }:=I.kept λb o e=>vZ _ e;refine⟨(s.heap.push _).objs.size,[(s.heap.push _).objs.size],_,_,H,rr,
  M.kept λb o e=>vZ _ e,zS _ lo _,?_,λb hb=>?_,q⟩
 .have O:lo+((0:Nat):Int)*1=lo:=V9
  have e2:(((hi - lo).toNat:Nat):Int) - ((0:Nat):Int)=Builtin.Range.rangeSize lo hi 1:=by rw[rangeSize_one];split<;>lia
  rw[O,e2];exact vY _ rr
 .have e:b=(s.heap.push { cls:=.type "range",data:=.fields #[.int lo t,.int hi u,.int 1 v] }).objs.size:=by simpa using hb
  subst e;exact M.fpOk (vT _) (M.hok.fresh (vT _))
def Tn (ta:TA):TI:=λσ H R=>ta σ H λvs M=>∃j:Int,vs=[.int j]/\-(2 ^ 62)<=j/\j<2 ^ 62/\R (Wi 0 j.toNat) M
theorem D3 {a:Expr}{ta:TA}{p M:Pos}(U:Gl X "range")(hm:X.mg "range" = none)(ha:PA X [a] ta)(hs:starEach [a] X.env=[(false,eval a X.env)]:=by rfl):PI X tg (.Call (.Name "range" p) [a] [] M) (Tn ta):=by
 intro af s σ H R I h;refine Call_ (fK I U hm boot_range (PyProof.Rows.callWith_type1 (bJ (ha _ _ s σ H _ I h) λus s1 ⟨vs,f,b,c,O⟩=>?_) hs rr));obtain⟨j,e,O,q2,q⟩:=O;subst e;cases c with
 |cons r d=>
  cases d
  obtain⟨t,rfl⟩:=r;exact call_range_1 (Fp b N9 N9 O q2 (by simpa using q))
def OS (a:TI)(g:TG)(tb:TS):TS:=λD σ H=>a σ H λJ b=>∃W:Nat->Nat->St->Hp->Prop,(∃m,W 0 m σ b)/\∀i m σ H,W i m σ H ->
 (J.stop i H/\D.nx σ H)\/(J.go i H/\∃N:St->Hp->Prop,(∀M H',N M H'->∃U,U<m/\W (i+1) U M H')/\∀x H',J.yld i H x H'->g x σ H' λO H2=>tb { D with nx:=N,ct:=N,bk:=D.nx } O H2)
noncomputable def pJ (fp:List Addr)(h:Heap):AO:=fp.filterMap λb=>(h.get? b).map λo=>(b,o)
theorem iC {fp:List Addr}{h:Heap}{b:Addr}{o:Obj}(hb:b∈fp)(e:h.get? b=some o):(b,o)∈pJ fp h:=mem_filterMap.mpr ⟨b,hb,by rw[e];rfl⟩
theorem D4 (hp:p∈pJ fp h):p.1∈fp/\h.get? p.1=some p.2:=by
 obtain⟨b,hb,e⟩:=mem_filterMap.mp hp;simp_all<;>lia
theorem Inv.pinned (I:Inv X af σ H s)(hf:∀b∈fp,kU X af H b)(ho:∀b∈fp,∃o,s.heap.get? b=some o/\∀v,o.data≠.cell v):Inv X (af++pJ fp s.heap) σ H s:=
 I.pins_of λp hp=>(mem_append.mp hp).elim (λz=>I.pin p (mY _ z)) λz=>by
  obtain⟨hb,e⟩:=D4 z;obtain⟨M,f1,f2,_⟩:=hf _ hb;grind
theorem Inv.unpinned (I:Inv X (af++pl) σ H s):Inv X af σ H s:=I.pins_of λp hp=>I.pin p (mY _ (mem_append_left _ hp))
theorem Fs {O:Expr}{l:List Stmt}{E:TI}{g:TG}{tb:TS}{t:Pos}(hp:PassesOwn (model X.prog X.w) X.A X.env X.xe)(hc:X.calm=true)(hi:PI X tg O E)(Q:PG X tg g)(hb:sU X l tb)
  (hs:∀x,foldedSetIterable O X.env x=pure x:=by intro _;rfl):PS X (.For tg O l [] t) (OS E g tb):=by
 intro af s σ H D I h;refine wpAny_For (bJ (hi af s σ H _ I h) λv s1 h1=>bJ h1 λZB s2 h2=>?_) hs;obtain⟨it,fp,tn,J,H2,e,R,T,S,f2,W,⟨V,Y⟩,Z⟩:=h2;subst e
 -- what stays true of the iterator's objects through the loop
 have U:∀ {H':Hp},(∀b∈fp,H' b=none)->∀b∈fp,kU X af H' b:=λhn b hb=>⟨hn b hb,(f2 b hb).2⟩;refine codeAny_forLoop_any (λn s'=>∃i a H',Inv X af a H' s'/\tn i s'.heap/\(∀b∈fp,H' b=none)/\W i n a H') ?_ V ⟨0,σ,H2,R,S,λb hb=>(f2 b hb).1,Y⟩;rintro n F ⟨i,c,q,G,K,L,w3⟩;rcases Z i n c q w3 with⟨stop,qn⟩|⟨go,N,hN,step⟩
 .refine wpAny_passesOwn hp (bJ (T.done X rr rr rr hc i af F c q X.xe G (U L) K stop) λr s4 ⟨hr,I4⟩=>?_);subst hr;exact wpAny_execs_nil ⟨c,q,I4,qn⟩
 .refine wpAny_passesOwn hp (bJ (T.item X rr rr rr hc i af F c q X.xe G (U L) K go) λr s4 ⟨u,hr,h4⟩=>?_);subst hr;refine wpAny_passesOwn hp (bJ h4 λ_ s5 ⟨x,P,I5,r5,y5,y,XX⟩=>?_);have z:=I5.pinned (U XX) (T.obj _ _ y);refine wpAny_passesOwn hp (bJ (Q _ s5 c P x u _ z r5 (step x P y5)) λ_ s6 ⟨B,H6,I6,q6⟩=>?_);refine wpAny_passesOwn hp (bJ (hb _ s6 B H6 _ I6 q6) λf C p=>?_);have again:∀ {M:St}{j:Hp},Inv X _ M j C->N M j->∃m,m<n/\∃i a H',Inv X af a H' C/\tn i C.heap/\(∀b∈fp,H' b=none)/\W i m a H':=λ{M j} k n7=>by
   obtain⟨m',hm,w7⟩:=hN M j n7;refine⟨m',hm,i+1,M,j,k.unpinned,T.keep _ _ _ y λb hb o e=>(k.pin (b,o) (mY _ (mY _ (iC hb e)))).1,λb hb=>?_,w7⟩;obtain⟨o,e,d⟩:=T.obj _ _ y b hb;exact(k.pin (b,o) (mY _ (mY _ (iC hb e)))).2.1
  cases f with
  |next=>obtain⟨M,j,k,n7⟩:=p;exact again k n7
  |cont=>obtain⟨M,j,k,n7⟩:=p;exact again k n7
  |brk=>obtain⟨M,j,k,p⟩:=p;exact⟨M,j,k.unpinned,p⟩
  |ret v=>obtain⟨x7,M,j,k,r7,p⟩:=p;exact⟨x7,M,j,k.unpinned,r7,p⟩
end
abbrev R2:=V->V->Hp->VK->Prop
def cj (X:Cx)(f:Value->Value->Sem Value)(r:R2):Prop:=
 ∀(af:AO)(s:Shared)(σ:St)(H:Hp)(x y:V)(v u:Value)(Q:VK),Inv X af σ H s->aG x v->aG y u->r x y H Q ->
  wq X (f v u) (EP X af σ Q) X.xe s
def To (X:Cx)(f:Value->Sem Value)(r:V->Hp->VK->Prop):Prop:=
 ∀(af:AO)(s:Shared)(σ:St)(H:Hp)(x:V)(v:Value)(Q:VK),Inv X af σ H s->aG x v->r x H Q ->
  wq X (f v) (EP X af σ Q) X.xe s
def bH (X:Cx)(f:Value)(r:List V->Hp->VK->Prop):Prop:=
 ∀(af:AO)(s:Shared)(σ:St)(H:Hp)(xs:List V)(us:LU)(Q:VK),Inv X af σ H s->aF xs us->r xs H Q ->
  wq X (call f us) (EP X af σ Q) X.xe s
def Wj (r:R2)(ta tb:TE):TE:=λσ H Q=>ta σ H λx M=>tb σ M λy H2=>r x y H2 Q
def tUn (r:V->Hp->VK->Prop)(ta:TE):TE:=λσ H Q=>ta σ H λx M=>r x M Q
def rI (C:Int->Int->Prop)(g:Int->Int->V):R2:=λx y H Q=>∃i j,x=.int i/\y=.int j/\C i j/\Q (g i j) H
def K7 (g:Int->Int->V):R2:=λx y H Q=>∃i j,x=.int i/\y=.int j/\Q (g i j) H
def rU (g:Int->V):V->Hp->VK->Prop:=λx H Q=>∃i,x=.int i/\Q (g i) H
section
variable {X:Cx}{a b c:Expr}{ta tb tc:TE}{pos:Pos}
theorem OT (ha:PE X a ta)(hb:PE X b tb){af:AO}{s:Shared}{σ:St}{H:Hp}{R:V->V->Hp->Prop}(I:Inv X af σ H s)
  (h:ta σ H λx U=>tb σ U λy H2=>R x y H2) {Q:QV}{f:Value->Value->Sem Value}
  (hf:∀v u s2 x y H2,Inv X af σ H2 s2->aG x v->aG y u->R x y H2->wq X (f v u) Q X.xe s2):
  wq X (eval a X.env) (λv M=>wq X (eval b X.env) (λu O=>wq X (f v u) Q X.xe O) X.xe M) X.xe s:=by
 refine bJ (ha _ s σ H _ I h) λv s1 ⟨x,U,d,e,g⟩=>?_;refine bJ (hb _ s1 σ U _ d g) λu s2 ⟨y,H2,i,j,q2⟩=>?_;exact hf v u s2 x y H2 i e j q2
theorem Tp {op:Operator}{r:R2}(ho:cj X (binaryOp op) r)(ha:PE X a ta)(hb:PE X b tb):PE X (.BinOp a op b pos) (Wj r ta tb):=by
 intro af s σ H Q I h;exact wpAny_BinOp (OT ha hb I h λv u s2 x y H2 M O U q=>ho _ s2 σ H2 x y v u Q M O U q)
theorem Tr {op:UnaryOp}{r:V->Hp->VK->Prop}(ho:To X (unaryOp op) r)(ha:PE X a ta):PE X (.UnaryOp op a pos) (tUn r ta):=by
 intro af s σ H Q I h;exact UnaryOp_ (bJ (ha _ s σ H _ I h) λv s1 ⟨x,M,O,U,d⟩=>ho _ s1 σ M x v Q O U d)
theorem Ts {f:Value->Value->Sem Value}{C:Int->Int->Prop}{g:Int->Int->Int}
  (rule:∀(i j:Int)(t u:Tok)(s:Shared)(Q:QV)(E:QV),C i j->Q (.int (g i j) s.toks) { s with toks:=s.toks+1 }->wq X (f (.int i t) (.int j u)) Q E s):
  cj X f (rI C λi j=>.int (g i j)):=by
 intro af s σ H x y v u Q I M O h;obtain⟨i,j,rfl,rfl,hc,q⟩:=h;obtain⟨t,rfl⟩:=M;obtain⟨t',rfl⟩:=O;exact rule i j t t' s _ _ hc ⟨.int _,H,I.tok _,⟨_,rr⟩,q⟩
theorem OU {f:Value->Value->Sem Value}{g:Int->Int->Int}
  (rule:∀(i j:Int)(t u:Tok)(s:Shared)(Q:QV)(E:QV),Q (.int (g i j) s.toks) { s with toks:=s.toks+1 }->wq X (f (.int i t) (.int j u)) Q E s):
  cj X f (K7 λi j=>.int (g i j)):=by
 intro af s σ H x y v u Q I M O h;obtain⟨i,j,rfl,rfl,q⟩:=h;obtain⟨t,rfl⟩:=M;obtain⟨t',rfl⟩:=O;exact rule i j t t' s _ _ ⟨.int _,H,I.tok _,⟨_,rr⟩,q⟩
theorem KW {f:Value->Value->Sem Value}{g:Int->Int->Bool}
  (rule:∀(i j:Int)(t u:Tok)(s:Shared)(Q:QV)(E:QV),Q (.bool (g i j)) s->wq X (f (.int i t) (.int j u)) Q E s):
  cj X f (K7 λi j=>.bl (g i j)):=by
 intro af s σ H x y v u Q I M O h;obtain⟨i,j,rfl,rfl,q⟩:=h;obtain⟨t,rfl⟩:=M;obtain⟨t',rfl⟩:=O;exact rule i j t t' s _ _ ⟨.bl _,H,I,rr,q⟩
def Tt (i j:Int):Prop:=0<j/\j<1073741824
def Tu (i j:Int):Prop:=0<=j/\j<=1000000/\i.natAbs<2 ^ 64
def KY (i j:Int):Prop:=(-(2 ^ 64)<i/\i<2 ^ 64)\/(-(2 ^ 64)<j/\j<2 ^ 64)
theorem KY.ok (h:KY i j):IntMulOk i j:=by
 rcases h with⟨h1,h2⟩|⟨h1,h2⟩
 .exact .of_left (intBits_le_64 h1 h2)
 .exact .of_right (intBits_le_64 h1 h2)
theorem OV:cj X (binaryOp .Add) (K7 λi j=>.int (i+j)):=OU λ_ _ _ _ _ _ _ q=>add_int q
theorem OW:cj X (binaryOp .Sub) (K7 λi j=>.int (i - j)):=OU λ_ _ _ _ _ _ _ q=>sub_int q
theorem OX:cj X (binaryOp .Mult) (rI KY λi j=>.int (i*j)):=Ts λ_ _ _ _ _ _ _ hc q=>mul_int q hc.ok
theorem KZ:cj X (binaryOp .FloorDiv) (rI Tt λi j=>.int (i / j)):=Ts λi j _ _ _ _ _ hc q=>by
 have h1:=hc.1;have h2:=hc.2;grind[floordiv_int,PyProof.noPylong_small]
theorem OY:cj X (binaryOp .Mod) (rI (λ_ j=>0<j) λi j=>.int (i % j)):=Ts λi j _ _ _ _ _ hc q=>by
 exact mod_int' N9 (by rw[Int.fmod_eq_emod_of_nonneg i N9];exact q)
theorem OZ:cj X (binaryOp .Pow) (rI Tu λi j=>.int (i ^ j.toNat)):=Ts λ_ _ _ _ _ _ _ hc q=>pow_int_small hc.1 hc.2.1 hc.2.2 q
theorem Pa:cj X (binaryOp .BitAnd) (K7 λi j=>.int (Builtin.bitAnd i j)):=OU λ_ _ _ _ _ _ _ q=>and_int q
theorem unI {f:Value->Sem Value}{g:Int->Int}
  (rule:∀(i:Int)(t:Tok)(s:Shared)(Q:QV)(E:QV),Q (.int (g i) s.toks) { s with toks:=s.toks+1 }->wq X (f (.int i t)) Q E s):
  To X f (rU λi=>.int (g i)):=by
 intro af s σ H x v Q I M h;obtain⟨i,rfl,q⟩:=h;obtain⟨t,rfl⟩:=M;exact rule i t s _ _ ⟨.int _,H,I.tok _,⟨_,rr⟩,q⟩
theorem Pc:To X (unaryOp .USub) (rU λi=>.int (-i)):=unI λ_ _ _ _ _ q=>neg_int q
theorem D5:cj X (binaryOp .Add) (λx y H Q=>∃i k,x=.int i/\y=.bl k/\Q (.int (i+b2i k)) H):=by
 intro af s σ H x y v u Q I M O h;obtain⟨i,k,rfl,rfl,q⟩:=h;obtain⟨t,rfl⟩:=M;cases O
 exact add_int_bool ⟨.int _,H,I.tok _,⟨_,rr⟩,q⟩
end
section
variable {X:Cx}{a b c:Expr}{ta tb tc:TE}{pos:Pos}
theorem Tv:cj X (compareOp .Lt) (K7 λi j=>.bl (decide (i<j))):=KW λ_ _ _ _ _ _ _ q=>lt_int q
theorem Tw:cj X (compareOp .LtE) (K7 λi j=>.bl (decide (i<=j))):=KW λ_ _ _ _ _ _ _ q=>le_int q
theorem Tz:cj X (compareOp .Gt) (K7 λi j=>.bl (decide (j<i))):=KW λ_ _ _ _ _ _ _ q=>gt_int q
theorem T1:cj X (compareOp .GtE) (K7 λi j=>.bl (decide (j<=i))):=KW λ_ _ _ _ _ _ _ q=>ge_int q
theorem La (ho:cj X (compareOp op) r)(ha:PE X a ta)(hb:PE X b tb)(hm:behindInMarks op b=false):PE X (.Compare a [op] [b] pos) (Wj r ta tb):=by
 intro af s σ H Q I h;exact wpAny_Compare1 (OT ha hb I h λv u s2 x y H2 M O U q=>ho _ s2 σ H2 x y v u Q M O U q) hm
def NJ (t:TE):TT:=λσ H Q=>t σ H λx H'=>∃k,x=.bl k/\Q k H'
theorem Bp {op:CmpOp}{r:R2}(ho:cj X (compareOp op) r)(ha:PE X a ta)(hb:PE X b tb)(hm:behindInMarks op b=false):PT X (.Compare a [op] [b] pos) (NJ (Wj r ta tb)):=by
 intro af s σ H Q I h;refine wpAny_isTrue_Compare1 (bJ (ha _ s σ H _ I h) λv s1 ⟨x,M,O,U,d⟩=>bJ (hb _ s1 σ M _ O d) λu s2 ⟨y,H2,f,g,q2⟩=>
  bJ (ho _ s2 σ H2 x y v u _ f U g q2) λc n ⟨z,i,j,l,k,e,m⟩=>?_) hm
 subst e;cases l
 exact wpAny_truthy_bool ⟨i,j,m⟩
def zU (r O:R2)(ta tb tc:TE):TE:=λσ H Q=>ta σ H λx U=>tb σ U λy H2=>r x y H2 λz M=>∃k,z=.bl k /\
 (if k=true then tc σ M λd e=>O y d e Q else Q (.bl false) M)
theorem Ft {op M:CmpOp}{r U:R2}(ho:cj X (compareOp op) r)(O:cj X (compareOp M) U)(ha:PE X a ta)(hb:PE X b tb)(hc:PE X c tc)
  (hm:lastMarks [op,M] [b,c]=false:=by with_unfolding_all rfl):PE X (.Compare a [op,M] [b,c] pos) (zU r U ta tb tc):=by
 intro af s σ H Q I h;refine Compare_chain (bJ (ha _ s σ H _ I h) λv s1 ⟨x,l,m,n,o⟩=>chain_link (bJ (hb _ s1 σ l _ m o) λu s2 ⟨y,H2,p,f,q2⟩=>
  bJ (ho _ s2 σ H2 x y v u _ p n f q2) λd q ⟨z,g,i,t,k,e,j⟩=>?_)) hm
 subst e;cases t
 refine wpAny_truthy_bool ?_;cases k with
 |false=>exact ite_ff ⟨.bl _,g,i,rr,j⟩
 |true=>exact ite_tt (chain_last (bJ (hc _ q σ g _ i j) λw A ⟨B,C,D,E,F⟩=>O _ A σ C y B u w Q D f E F))
theorem Fu {op M:CmpOp}{r U:R2}(ho:cj X (compareOp op) r)(O:cj X (compareOp M) U)(ha:PE X a ta)(hb:PE X b tb)(hc:PE X c tc)
  (hm:lastMarks [op,M] [b,c]=false:=by with_unfolding_all rfl):PT X (.Compare a [op,M] [b,c] pos) (NJ (zU r U ta tb tc)):=by
 intro af s σ H Q I h;refine isTrue_chain (bJ (ha _ s σ H _ I h) λv s1 ⟨x,l,m,n,o⟩=>test_link (bJ (hb _ s1 σ l _ m o) λu s2 ⟨y,H2,p,f,q2⟩=>
  bJ (ho _ s2 σ H2 x y v u _ p n f q2) λd q ⟨z,g,i,t,k,e,j⟩=>?_)) hm
 subst e;cases t
 refine wpAny_truthy_bool ?_;cases k with
 |false=>
  obtain⟨k',w,A⟩:=j;cases w
  exact ite_ff ⟨g,i,A⟩
 |true=>
  refine ite_tt (test_last (bJ (hc _ q σ g _ i j) λB C ⟨D,E,F,G,J⟩=>bJ (O _ C σ E y D u B _ F f G J) λd' R ⟨S,K,L,N,k2,e2,P⟩=>?_));subst e2;cases N
  exact wpAny_truthy_bool ⟨K,L,P⟩
theorem mN:(sizeLine:Nat)<2 ^ 63:=Z9
theorem zV:cj X (binaryOp .Add) (λx y H Q=>∃i j,x=.str i/\y=.str j/\i.length+j.length<=sizeLine/\Q (.str (i++j)) H):=by
 intro af s σ H x y v u Q I M O h;obtain⟨i,j,rfl,rfl,hz,q⟩:=h;obtain⟨t,rfl⟩:=M;obtain⟨t',rfl⟩:=O;exact add_str (λt' tk=>⟨.str _,H,I.tok _,⟨_,rr⟩,q⟩) hz
theorem fM (r:aF [x] us):∃u,us=[u]/\aG x u:=by
 cases r with
 |cons M O=>cases O;exact⟨_,rr,M⟩
theorem NK (r:aF [x,y] us):∃u M,us=[u,M]/\aG x u/\aG y M:=by
 cases r with
 |cons O U=>
  cases U with
  |cons d e=>cases e;exact⟨_,_,rr,O,d⟩
end
structure Ny (h:Heap)(x dx C:Addr)(mA:Str->Option Value):Prop where
 obj:h.get? x=some (PySem.W.instObj C dx)
 ns:h.Ns1 dx mA
 ne:dx≠x
theorem D6 {h:Heap}{dx:Addr}{mA:SV}(n:h.Ns1 dx mA):∃od,h.get? dx=some od/\∀name,PySem.W.lookIn name od=some (mA name):=by
 obtain⟨o,es,O,ho,hd,hk,_,hm⟩:=n;refine⟨o,ho,λname=>?_⟩;have e:=hm name;unfold nsFind findBy at e;rw[<-Array.find?_toList]at e;unfold PySem.W.lookIn;rw[hd];dsimp;split
 .simp_all
 .have a:es.toList.any (·.refKey)=false:=by
   rw[List.any_eq_false];intro y hy;obtain⟨z,t,M⟩:=hk y (Array.mem_toList_iff.mp hy);simp[DictEntry.refKey,M]
  split<;>simp_all
theorem Ny.look (I:Ny h x dx C mA):∃od,PySem.W.InstAt h x (PySem.W.instObj C dx) C (some od)/\∀name,PySem.W.lookIn name od=some (mA name):=
 let ⟨od,ho,hl⟩:=D6 I.ns
 ⟨od,⟨I.obj,rr,rr,ho⟩,hl⟩
section
variable {prog:Program}{w:World}{A:Around}{E:QV}{s:Shared}{K:Frag}{x dx C f:Addr}{mA:SV}{name:Str}{v:Value}
end
section
variable {P:Program}{w:World}{H H':Hp}{h h':Heap}{a C dx:Addr}{fs XS:List (Str×V)}
theorem Br (hok:kq P w H h)(e:H a=some (.ins C dx fs)):∃mA,Ny h a dx C mA/\(∀f,oW (fs.lookup f) (mA f))/\PySem.Within mA (fs.map (·.1))/\fs.length<=1000/\H dx=some (.own a):=by
 obtain⟨d,z,ne,ob,mA,n,r,q⟩:=(show bc P w H h a _ from hok a _ e);exact⟨mA,⟨ob,n,ne⟩,r,q,z,d⟩
end
structure Cls (K:Frag)(C:Addr):Prop where
 pg:PySem.W.plainGet K C Str.empty=true
 hd:PySem.W.hasDictIn K C=true
 po:PySem.W.plainOver K C=true
 sa:PySem.W.findIn K (.ref C) "__setattr__" = some (some (.builtin "object.__setattr__"))
theorem Cls.get {K:Frag}{C:Addr}(c:Cls K C)(f:Str):PySem.W.plainGet K C f=true:=c.pg
structure Meth (K:Frag)(C:Addr)(m:Str)(f:Addr):Prop where
 at_:PySem.W.findIn K (.ref C) m=some (some (.ref f))
 fn:PySem.W.isFn K (.ref f)=true
 kp:PySem.W.keepIn K (.ref f)=true
section
variable {X:Cx}{af:AO}{σ:St}{H:Hp}{s:Shared}{a C dx:Addr}{fs:List (Str×V)}{f:Str}{v:V}{A:Around}{E:QV}
end
section
variable {X:Cx}{o e value:Expr}{f:Str}{pos Kx RI:Pos}{ta tv:TE}
end
section
variable {X:Cx}{af:AO}{σ:St}{H:Hp}{s:Shared}{A:Around}{E:QV}{Q:QV}{c:Value}{b:Bool}
inductive TyOf (K:Frag)(H:Hp):V->Value->Prop where
 |non:TyOf K H .non (.type "NoneType")
 |bl (x:Bool):TyOf K H (.bl x) (.type "bool")
 |int (i:Int):TyOf K H (.int i) (.type "int")
 |str (x:Str):TyOf K H (.str x) (.type "str")
 |flt (x:UInt64):TyOf K H (.flt x) (.type "float")
 |lst {a:Addr}{xs:List V}(e:H a=some (.lst xs)):TyOf K H (.ref a) (.type "list")
 |frz {a:Addr}{o:Obj}{xs:List V}(e:H a=some (.frz o (.lst xs))):TyOf K H (.ref a) (.type "list")
 |tup {a:Addr}{xs:List V}(e:H a=some (.tup xs)):TyOf K H (.ref a) (.type "tuple")
 |dK {a:Addr}{a7:List (di×V)}{ob:Obj}(e:H a=some (.dK a7 ob)):TyOf K H (.ref a) (.type "dict")
 |dT {a:Addr}{a7:List (List di×V)}(e:H a=some (.dT a7)):TyOf K H (.ref a) (.type "dict")
 |ins {a C dx:Addr}{fs:List (Str×V)}(e:H a=some (.ins C dx fs)) (cl:Cls K C) (ha:PySem.W.findIn K (.ref C) "__class__" = some (some (.builtin "object.__class__")))
   (hn:PySem.W.specialIn K (.builtin "object.__class__") "__get__" = some (some (.builtin "getset_descriptor.__get__"))) (ZD:PySem.W.takesIn K (.builtin "object.__class__")=some true)
   (hm:PySem.W.mroIn K C (.type "object")=some true):TyOf K H (.ref a) (.ref C)
theorem fB (I:Inv X af σ H s)(M:aG x u)(ty:TyOf X.K H x t)(e:PySem.W.kitOne X.K t c=some b)(h:∀tk,Q (.bool b) { s with toks:=tk }):
  wpAny (model X.prog X.w) A (call (.builtin "isinstance") [u,c]) Q E s:=by
 cases ty with
 |non=>cases (show u=Value.none from M);exact kia_one PySem.W.kitx_none I.kIn True.intro e (λz=>nomatch z) h
 |bl y=>cases (show u=Value.bool y from M);exact kia_one PySem.W.kitx_bool I.kIn True.intro e (λz=>nomatch z) h
 |int i=>obtain⟨t,q⟩:=(show ∃t,u=Value.int i t from M);cases q;exact kia_one PySem.W.kitx_int I.kIn True.intro e (λz=>nomatch z) h
 |str y=>obtain⟨t,q⟩:=(show ∃t,u=Value.str y t from M);cases q;exact kia_one PySem.W.kitx_str I.kIn True.intro e (λz=>nomatch z) h
 |flt y=>obtain⟨t,q⟩:=(show ∃t,u=Value.float y t from M);cases q;exact kia_one PySem.W.kitx_float I.kIn True.intro e (λz=>nomatch z) h
 |@lst a xs U=>
  cases (show u=Value.ref a from M)
  obtain⟨_,_,n,_,h1⟩:=(show bc X.prog X.w H s.heap a (.lst xs)from I.hok a _ U);exact kia_one PySem.W.kitx_list I.kIn ⟨_,h1,rr⟩ e (λz=>nomatch z) h
 |@frz a ob xs U=>
  cases (show u=Value.ref a from M)
  obtain⟨_,_,_,n,_,h1⟩:=(show bc X.prog X.w H s.heap a (.frz ob (.lst xs))from I.hok a _ U);exact kia_one PySem.W.kitx_list I.kIn ⟨_,h1,rr⟩ e (λz=>nomatch z) h
 |@tup a xs U=>
  cases (show u=Value.ref a from M)
  obtain⟨_,_,_,p⟩:=(show bc X.prog X.w H s.heap a (.tup xs)from I.hok a _ U);obtain⟨o,h1,h2,_⟩:=p;exact kia_one PySem.W.kitx_tuple I.kIn ⟨o,h1,h2⟩ e (λz=>nomatch z) h
 |@dK a a7 ob U=>
  cases (show u=Value.ref a from M)
  obtain⟨_,_,_,vs,_,p⟩:=(show bc X.prog X.w H s.heap a (.dK a7 ob)from I.hok a _ U);obtain⟨o,es,d,h1,h2,_⟩:=p;exact kia_one PySem.W.kitx_dict I.kIn ⟨o,h1,h2.1⟩ e (λz=>nomatch z) h
 |@dT a a7 U=>
  cases (show u=Value.ref a from M)
  obtain⟨_,_,xs,_,o,es,d,h1,h2,_⟩:=(show bc X.prog X.w H s.heap a (.dT a7)from I.hok a _ U);exact kia_one PySem.W.kitx_dict I.kIn ⟨o,h1,h2.1⟩ e (λz=>nomatch z) h
 |@ins a C dx fs U cl ha hn ZD hm=>
  cases (show u=Value.ref a from M)
  obtain⟨mA,O,_⟩:=Br I.hok U;obtain⟨od,J,_⟩:=O.look;exact kia_one (PySem.W.kitx_own (cl.get _) cl.hd ha hn ZD hm) I.kIn J e (λz=>nomatch z) h
end
structure cV (k:Nat)(A:Around):Prop where
 hd:A.handled=none
 dp:A.depth+3*k+5<recursionLimit
 un:A.units+16*k+200<cLine
theorem cV.mono (r:cV k A)(h:j<=k):cV j A:=⟨r.hd,by have:=r.dp;lia,by have:=r.un;lia⟩
theorem cV.deeper (r:cV (k+1) A)(env:Env):cV k (A.deeper env):=
 ⟨r.hd,by have:=r.dp;show A.depth+1+3*k+5<_;lia,by have:=r.un;simp<;>lia⟩
theorem cV.in1 (r:cV (k+1) A):cV k A.in1:=
 ⟨r.hd,by have:=r.dp;lia,by have:=r.un;lia⟩
theorem cV.depth (r:cV k A):A.depth<recursionLimit:=by have:=r.dp;lia
def T3:TA:=λ_ H Q=>Q [] H
def NM (ta:TE)(M:TA):TA:=λσ H Q=>ta σ H λx O=>M σ O λxs H2=>Q (x::xs) H2
section
variable {X:Cx}{e:Expr}{es:QD}{te:TE}{t:TA}{pos:Pos}
theorem dX:PA X [] T3:=λ_ _ _ _ H Q I h=>Calls.spliced_nil ⟨[],H,I,.nil,h⟩
theorem cF (ha:PE X e te)(hr:PA X es t)(hs:starEach (e::es) X.env=(false,eval e X.env)::starEach es X.env:=by rfl):PA X (e::es) (NM te t):=by
 intro pos af s σ H Q I h;rw[hs];refine Calls.spliced_cons (bJ (ha _ s σ H _ I h) λu s1 ⟨x,M,O,U,a⟩=>?_);exact bJ (hr _ _ s1 σ M _ O a) λus s2 ⟨xs,H2,b,c,q2⟩=>⟨x::xs,H2,b,.cons U c,q2⟩
def T4 (t:TA):TE:=λσ H Q=>t σ H λxs M=>xs.length<=sizeLine/\∀p,M p=none->Q (.ref p) (upd M p (.tup xs))
def WY (t:TA):TE:=λσ H Q=>t σ H λxs M=>xs.length<=sizeLine/\∀p,M p=none->Q (.ref p) (upd M p (.lst xs))
theorem uE {U}(h:PA X es t):PE X (.Tuple es U pos) (T4 t):=by
 intro af s σ H Q I hq;refine wpAny_Tuple_spliced (bJ (h _ _ s σ H _ I hq) λus s1 ⟨xs,O,M,r,z,q⟩=>⟨by rw[<-r.length];exact z,?_⟩);have hf:=M.hok.fresh (vT _);refine⟨.ref _,upd O _ _,M.laid (λb u e=>vZ _ e) (vT _) ?_,rr,q _ hf⟩;exact⟨z,us,r,⟨_,vY _ rr,rr,_,rr⟩⟩
theorem Pe (h:PA X es t):PE X (.List es pos) (WY t):=by
 intro af s σ H Q I hq;refine wpAny_List_spliced (bJ (h _ _ s σ H _ I hq) λus s1 ⟨xs,O,M,r,z,q⟩=>⟨by rw[<-r.length];exact z,?_⟩);have hf:=M.hok.fresh (vT _);refine⟨.ref _,upd O _ _,M.laid (λb u e=>vZ _ e) (vT _) ?_,rr,q _ hf⟩;exact⟨z,us,0,r,vY _ rr⟩
end
abbrev Sp:=List V->Hp->VK->XK->Prop
abbrev Lb:=List Env->Hp->Shared->XK->QV
structure Env0 (P:Program)(w:World)(K:Frag)(mg:Str->Option Value)(base:Heap)(A:Around)(outer:List Env)(s:Shared)(H:Hp):Prop where
 frames:A.frames=some outer
 mod:Mod K mg base
 bs:∀b o,base.get? b=some o->s.heap.get? b=some o/\H b=none
 bsz:base.objs.size<=s.z
 funs:s.heap.FunFrames base outer
 frf:∀b∈Ff outer,H b=none
 hok:kq P w H s.heap
 bare:AllBare s.gens
def CE (outer:List Env)(P:Program)(w:World)(H:Hp)(s:Shared)(Q:VK)(u:Value)(s':Shared):Prop:=
 ∃v H',s'.os=s.os/\AllBare s'.gens/\Un (Ff outer) [] H H' s.heap s'.heap/\kq P w H' s'.heap/\aG v u/\Q v H'
def CR (CX:Lb)(outer:List Env)(P:Program)(w:World)(H:Hp)(s:Shared)(Q:VK)(E:XK)(r:Result)(s':Shared):Prop:=
 match r with
 |.ok (.ret u)=>CE outer P w H s Q u s'
 |.ok _=>False
 |.error e=>CX outer H s E e s'
structure mK (P:Program)(w:World)(K:Frag)(mg:Str->Option Value)(base:Heap)(CX:Lb)(k:Nat)(f:Addr)(fd:FuncData)(ps:List Str)(sp:Sp):Prop where
 len:∀vs H Q E,sp vs H Q E->vs.length=ps.length
 run:∀(A:Around)(outer:List Env)(s:Shared)(H:Hp)(args:Args)(us:List Value)(vs:List V)(Q:VK)(E:XK),cV k A->Env0 P w K mg base A outer s H->BindsTo s fd args (ps.zip us)->aF vs us->sp vs H Q E ->
  codeAny (model P w) A (.call (.ref f) args) (CR CX outer P w H s Q E) s
section
variable {X:Cx}{af:AO}{σ:St}{H:Hp}{s s':Shared}
theorem Inv.env0 (I:Inv X af σ H s):Env0 X.prog X.w X.K X.mg X.base X.A X.stack s H:=
 ⟨I.ok.frames,I.ok.mod,I.bs,vR I.ok.bsz I.sz,I.stack,I.stkFree,I.hok,I.bare⟩
theorem Inv.after (I:Inv X af σ H s)(h:CE X.stack X.prog X.w H s Q u s'):EP X af σ Q u s':=by
 obtain⟨v,H',os,bare,un,hok,r,q⟩:=h;obtain⟨hh,g,d,t,M⟩:=s';obtain rfl:M=s.os:=os;exact⟨v,H',I.call un hok bare (λb z=>absurd z V9),r,q⟩
end
def T5 (sp:Sp)(M:List V)(E:XK)(t:TA):TE:=λσ H Q=>t σ H λvs O=>sp (vs++M) O Q E
def oh (K:Frag)(fd:FuncData)(ps:LS)(ds:LU):Prop:=
 ∀(s:Shared)(us:LU),K.In s.heap->(us++ds).length=ps.length->BindsTo s fd ⟨us,[]⟩ (ps.zip (us++ds))
theorem oh.all {K:Frag}{fd:FuncData}{ps:LS}(h:∀us:LU,us.length=ps.length->bindArgs fd ⟨us,[]⟩=pure (ps.zip us)):oh K fd ps []:=λs us _ hl=>by
 rw[uP]at hl |-;exact .of_eq (h us hl)
def zX (CX:Lb)(X:Cx)(E:XK):Prop:=∀(af:AO)(σ:St)(H:Hp)(s:Shared)(e:Value)(s':Shared),Inv X af σ H s->CX X.stack H s E e s'->X.xe e s'
section
variable {X:Cx}{CX:Lb}{k:Nat}{f C:Addr}{fd:FuncData}{ps:LS}{sp:Sp}{V3:List V}{ds:LU}{E:XK}{x m:Str}{p pos bQ:Pos}{e o:Expr}{es:QD}{ta:TE}{t:TA}
theorem Pf {af:AO}{σ:St}{H:Hp}{s:Shared}{Q:VK}{us:LU}{vs:List V}(F:mK X.prog X.w X.K X.mg X.base CX k f fd ps sp)(hr:cV k X.A)(hb:oh X.K fd ps ds)(hd:aF V3 ds)(hx:zX CX X E)
  (I:Inv X af σ H s) (r:aF vs us) (h:sp (vs++V3) H Q E):wq X (call (.ref f) us) (EP X af σ Q) X.xe s:=by
 have M:=r.append hd;have hl:(us++ds).length=ps.length:=by rw[<-M.length];exact F.len _ _ _ _ h
 refine wpAny_call (codeAny_mono (F.run _ _ s H _ _ _ Q E hr I.env0 (hb s us I.kIn hl) M h) λr s' hq=>?_);cases r with
 |error e=>exact hx _ σ H s e s' I hq
 |ok fl=>
  cases fl with
  |ret u=>exact I.after hq
  |next=>exact False.elim hq
  |brk=>exact False.elim hq
  |cont=>exact False.elim hq
theorem Lc (F:mK X.prog X.w X.K X.mg X.base CX k f fd ps sp)(hr:cV k X.A)(a:Gl X x)(hm:X.mg x=some (.ref f))(hk:PySem.W.keepIn X.K (.ref f)=true)(hb:oh X.K fd ps ds)(hd:aF V3 ds)(hx:zX CX X E)
  (ha:PA X (e::es) t) (M:(x == ("__debug__" : Str))=false:=by decide) (he:starEach (e::es) X.env=(false,eval e X.env)::starEach es X.env:=by rfl) (O:(backTo pos (starEach es X.env)).any (·.1)=false:=by rfl):
  PE X (.Call (.Name x p) (e::es) [] pos) (T5 sp V3 E t):=by
 intro af s σ H Q I h;refine wpAny_Call_Name_kw (uA I a hm ?_ M);refine PySem.W.callWith_K I.ok.mod.kin hk (bJ (ha _ _ s σ H _ I h) λus s1 ⟨vs,b,U,r,q⟩=>⟨U.kIn,?_⟩) he O;exact Pf F hr hb hd hx U r q
end
structure FnScope (N P:List Str)(sc:Scope):Prop where
 kind:sc.kind=.function
 co:sc.isCoroutine=false
 gen:sc.isGenerator=false
 nd:N.Nodup
 pre:N.take P.length=P
 par:∀x∈P,sc.names.lookup x=some .local\/sc.names.lookup x=some .cell
 nofree:∀y∈sc.names,y.2≠.free
theorem sV {kindOf:Str->Option NameKind}{x:Str}:∀ {binds:List (Str×Value)}{m:SV},(∀v,(x,v)∉binds)->bindL kindOf binds m x=m x
 |[],_,_=>rr
 | (n,v)::r,m,h=>by
  unfold bindL;rw[sV λw hw=>h w (mZ _ hw)];split
  .grind
  .rfl
theorem sW {kindOf:Str->Option NameKind}{x:Str}:∀ {binds:List (Str×Value)}{m:SV},(∀v,(x,v)∉binds)->bindC kindOf binds m x=m x
 |[],_,_=>rr
 | (n,v)::r,m,h=>by
  unfold bindC;rw[sW λw hw=>h w (mZ _ hw)];split
  .rfl
  grind
theorem sX {kindOf:Str->Option NameKind}{x:Str}{v:Value}:∀ {P:LS}{vs:LU}{i:Nat}{m:SV},P.Nodup->P[i]? = some x->vs[i]? = some v->kindOf x=some .local ->
  bindL kindOf (P.zip vs) m x=some v
 |[],_,_,_,_,h,_,_=>by simp at h
 |_::_,[],_,_,_,_,h,_=>by simp at h
 |p::P,w::vs,0,m,nd,h1,h2,hk=>by
  simp at h1 h2;subst h1;subst h2;show bindL _ ((p,w)::P.zip vs) m p=_;unfold bindL;rw[sV λv hv=>(nodup_cons.mp nd).1 (of_mem_zip hv).1,if_pos hk];simp
 |p::P,w::vs,i+1,m,nd,h1,h2,hk=>by
  unfold bindL;exact sX (nodup_cons.mp nd).2 (by simpa using h1) (by simpa using h2) hk
theorem sY {kindOf:Str->Option NameKind}{x:Str}{v:Value}:∀ {P:LS}{vs:LU}{i:Nat}{m:SV},P.Nodup->P[i]? = some x->vs[i]? = some v->kindOf x≠some .local ->
  bindC kindOf (P.zip vs) m x=some v
 |[],_,_,_,_,h,_,_=>by simp at h
 |_::_,[],_,_,_,_,h,_=>by simp at h
 |p::P,w::vs,0,m,nd,h1,h2,hk=>by
  simp at h1 h2;subst h1;subst h2;show bindC _ ((p,w)::P.zip vs) m p=_;unfold bindC;rw[sW λv hv=>(nodup_cons.mp nd).1 (of_mem_zip hv).1,if_neg hk];simp
 |p::P,w::vs,i+1,m,nd,h1,h2,hk=>by
  unfold bindC;exact sY (nodup_cons.mp nd).2 (by simpa using h1) (by simpa using h2) hk
noncomputable def kB (N:LS)(vs:List V):St:=vs.map some++List.replicate (N.length - vs.length) none
noncomputable def oZ (CX:Lb)(P:Program)(w:World)(K:Frag)(mg:SV)(base:Heap)(N:LS)(qual:Str)(scope:Scope)(f:Addr)(cd:Value)(A:Around)(outer:List Env)(s:Shared)(H:Hp)(E:XK):Cx where
 prog:=P
 w:=w
 K:=K
 mg:=mg
 base:=base
 A:=A.deeper (envOfC qual scope s.z f cd)
 N:=N
 s₀:=s
 H₀:=H
 env:=envOfC qual scope s.z f cd
 outer:=outer
 stack:=envOfC qual scope s.z f cd::outer
 ex:=[]
 calm:=true
 fn:=λ_=>true
 pn:=[]
 xe:=λe s'=>wpAny (model P w) (A.deeper (envOfC qual scope s.z f cd)) (leaving (envOfC qual scope s.z f cd) e) (λ_ M=>CX outer H s E e M) (λO M=>CX outer H s E O M) s'
theorem pK {sc:Scope}{n:Nat}{x:Str}(h:sc.names.lookup x=some .cell):∃c,(cellsFrom n sc.names []).lookup x=some c:=by
 have q:=PySem.W.cellsFrom_some _ n [] (.inl h);exact uT q
theorem D7 {CX:Lb}{P:Program}{w:World}{K:Frag}{mg:SV}{base:Heap}{N ps:LS}{qual:Str}{scope:Scope}{f:Addr}{cd:Value}{A:Around}{outer:List Env}{s s1:Shared}{H:Hp}{E:XK}{us:LU}{vs:List V}
  (S:FnScope N ps scope) (hd:A.handled=none) (M:Env0 P w K mg base A outer s H) (hl:vs.length=ps.length) (r:aF vs us)
  (x:InCallC s s.z (bindL (envOfC qual scope s.z f cd).kindOf (ps.zip us) λ_=>none) (cellsFrom (s.z+1) scope.names []) (bindC (envOfC qual scope s.z f cd).kindOf (ps.zip us) λ_=>none) s1):
  Inv (oZ CX P w K mg base N qual scope f cd A outer s H E) [] (kB N vs) H s1:=by
 have d:ps.length<=N.length:=by have:=congrArg List.length S.pre;grind
 obtain⟨h1,tk,rfl,hk⟩:=x.done;have O:∀b:Addr,b∉(oZ CX P w K mg base N qual scope f cd A outer s H E).ex:=λb z=>absurd (show b∈([]:List Addr)from z) V9;refine⟨⟨M.mod,S.kind,rr,rr,vT _,λy z c h1 h2=>?_,λy hy=>?_,λy c _ h=>?_,λ_=>hd,Around.frames_deeper M.frames,.inr ⟨rr,rr⟩,λb z=>absurd z (O b),M.bs,M.bsz,λb _ _=>O b,λb z=>absurd z (O b),M.funs,M.frf⟩,
  rr,M.bare,Un.kept hk,⟨_,x.toInCall.ns,λi y v h1 h2 h3=>?_⟩,λy c h=>⟨_,x.cell y c h⟩,M.hok.fresh (vT _),λy c h=>?_,λp hp=>absurd (show p∈([]:AO)from hp) V9,M.hok.kept hk,?_⟩
 .exact name_of_addr x.apart (PySem.mem_of_lookup h1) (PySem.mem_of_lookup h2)
 .rcases hy with hy|hy
  .exact pK hy
  .exact absurd rr (S.nofree _ (PySem.mem_of_lookup hy))
 .exact le_of_lt (x.above y c (PySem.mem_of_lookup h))
 .have hi:i<vs.length:=by
   unfold kB at h2;by_cases hi:i<vs.length
   .exact hi
   .rw[List.getElem?_append_right (by simpa using hi)]at h2;rw[List.getElem?_replicate]at h2;split at h2<;>cases h2
  have ha:vs[i]? = some v:=by
   simp_all[kB,getElem?_append_left]
  obtain⟨u,hu,a⟩:=r.get ha;have hp:ps[i]? = some y:=by
   rw[<-S.pre,List.getElem?_take_of_lt N9];exact h1
  have U:ps.Nodup:=by rw[<-S.pre];exact S.nd.sublist (take_sublist _ _)
  refine⟨u,a,?_⟩;rcases S.par y (vL hp)with k|k
  .exact .inl ⟨k,sX U hp hu k⟩
  .obtain⟨c,e⟩:=pK (n:=s.z+1) k;refine .inr ⟨.inl k,c,e,?_⟩;have q:=x.cell y c e;rw[sY U hp hu (by show scope.names.lookup y≠_;rw[k];decide)]at q;exact q
 .exact M.hok.fresh (le_of_lt (x.above y c (PySem.mem_of_lookup h)))
 .unfold kB;show _=N.length;simp_all
theorem NN {CX:Lb}{P:Program}{w:World}{K:Frag}{mg:SV}{base:Heap}{k:Nat}{f:Addr}{name qual:Str}{params:Arguments}{M:List Stmt}{scope:Scope}{g kV doc pm cW ct oc:Value}{an od:Option Addr}
  {mM:Array (Option Value)}{N ps:LS}{sp:Sp}(j:K.lookup f=some ⟨oc,od,.func (fnOf name qual params M scope g kV doc pm an cW ct),mM⟩) (l:PySem.W.codeIn K cW qual=true) (S:FnScope N ps scope)
  (len:∀vs H Q E,sp vs H Q E->vs.length=ps.length)
  (U:∀(A:Around)(outer:List Env)(s:Shared)(H:Hp)(vs:List V)(Q:VK)(E:XK),cV k (A.deeper (envOfC qual scope s.z f cW))->sp vs H Q E ->
   ∃t,sU (oZ CX P w K mg base N qual scope f cW A outer s H E) M t/\t { nx:=λ_ H'=>Q .non H',rt:=Q } (kB N vs) H):
  mK P w K mg base CX (k+1) f (fnOf name qual params M scope g kV doc pm an cW ct) ps sp:=by
 refine⟨len,λA outer s H args us vs Q E hr a hb r h=>?_⟩;have hl:=len _ _ _ _ h;have i:=a.mod.kin.keeps λb o e=>(a.bs b o e).1;have c:=a.mod.nolimit.keeps λb o e=>(a.bs b o e).1;have m:∀y∈ps.zip us,scope.names.lookup y.1=some _\/(scope.names.lookup y.1=some .cell/\((cellsFrom (s.z+1) _ []).lookup y.1).isSome=true):=λ⟨n,v⟩ hy=>by
  rcases S.par n (of_mem_zip hy).1 with q|q
  .exact .inl q
  .exact .inr ⟨q,PySem.W.cellsFrom_some _ _ _ (.inl q)⟩
 refine codeAny_call_function hr.depth (i _ _ j) rr S.co S.gen rr (PySem.W.codeRec_of i l) (hb _ _ _ _ ?_);refine wpAny_newFunctionEnv_cells S.kind m λenv he s1 x=>?_;subst he;refine⟨c.keeps x.toInCall.keep,codeAny_func ?_⟩;obtain⟨t,p,hq⟩:=U A outer s H vs Q E (hr.deeper _) h;have I:Inv (oZ CX P w K mg base N qual scope f cW A outer s H E) [] _ H s1:=D7 S hr.hd a hl r x;refine wpAny_mono (p [] s1 _ H _ I hq) (λfl s' hs=>?_) λe s' hs=>hs;have dv:∀ {O:St}{H':Hp}{v:V}{u:Value},Inv (oZ CX P w K mg base N qual scope f cW A outer s H E) [] O H' s'->aG v u->Q v H'->CE outer P w H s Q u s':=
  λ{O H' v u} J d q=>⟨v,H',J.os,J.bare,J.base,J.hok,d,q⟩
 cases fl with
 |ret u=>
  obtain⟨v,O,H',J,d,q⟩:=hs;exact dv J d q
 |next=>
  obtain⟨O,H',J,q⟩:=hs;exact dv (v:=V.non) J rr q
 |brk=>
  obtain⟨_,_,_,q⟩:=hs;simp_all
 |cont=>
  obtain⟨_,_,_,q⟩:=hs;simp_all
section
variable {X:Cx}{x:Str}{p pos:Pos}{e:Expr}{es:QD}{t:TA}{id T:String}{r:List V->Hp->VK->Prop}
def Zg (r:List V->Hp->VK->Prop)(t:TA):TE:=λσ H Q=>t σ H λvs M=>r vs M Q
theorem pL (hc:bH X (.builtin id) r)(U:Gl X x)(hm:X.mg x=none)(hv:bootBuiltins x=some (.builtin id))(ha:PA X (e::es) t)(hn:x ≠ "__name__":=by decide)(M:(x == ("__debug__" : Str))=false:=by decide)
  (he:starEach (e::es) X.env=(false,eval e X.env)::starEach es X.env:=by rfl) (O:(backTo pos (starEach es X.env)).any (·.1)=false:=by rfl):PE X (.Call (.Name x p) (e::es) [] pos) (Zg r t):=by
 intro af s σ H Q I h;refine wpAny_Call_Name_kw (fK I U hm hv ?_ hn M);exact PyProof.Rows.callWith_builtin1 (bJ (ha _ _ s σ H _ I h) λus s1 ⟨vs,a,b,c,d⟩=>hc _ s1 σ a vs us Q b c d) he O
theorem mO (hc:bH X (.type T) r)(U:Gl X x)(hm:X.mg x=none)(hv:bootBuiltins x=some (.type T))(ha:PA X (e::es) t)(hn:x ≠ "__name__":=by decide)(M:(x == ("__debug__" : Str))=false:=by decide)
  (he:starEach (e::es) X.env=(false,eval e X.env)::starEach es X.env:=by rfl) (O:(backTo pos (starEach es X.env)).any (·.1)=false:=by rfl):PE X (.Call (.Name x p) (e::es) [] pos) (Zg r t):=by
 intro af s σ H Q I h;refine wpAny_Call_Name_kw (fK I U hm hv ?_ hn M);exact PyProof.Rows.callWith_type1 (bJ (ha _ _ s σ H _ I h) λus s1 ⟨vs,a,b,c,d⟩=>hc _ s1 σ a vs us Q b c d) he O
end
end L2
namespace HT
open PySem PyProof.Rows
section
open PySem.SeqAt
open PySem.AutoSeq1 (wpAny_loadPart')
open PySem.MeetsSeq PySem.MeetsSeq2 PySem.MeetsSeq3
end
section
variable {prog:Program}{w:World}{A:Around}{E:QV}{s:Shared}
theorem Ld (d:IsTup s.heap t vs.toArray)(hb:IsTup s.heap b ws.toArray)(hv:vs≠[])
  (h1:ws=[]->Q (.ref t) s) (h2:ws≠[]->Q (.ref s.z) { s with heap:=s.heap.push { cls:=.type "tuple",data:=.seq (vs++ws).toArray } })
  (hsz:vs.length+ws.length<=sizeLine):wpAny (model prog w) A (binaryOp .Add (.ref t) (.ref b)) Q E s:=by
 obtain⟨⟨cls,dd,data,sl⟩,ho,hc,n,hd⟩:=id d;obtain⟨⟨f,O,data2,U⟩,M,a,n2,c⟩:=id hb;simp only at hc hd a c;subst hc hd a c;have e:vs.toArray++ws.toArray=(vs++ws).toArray:=V9
 by_cases hw:ws=[]
 .exact concat_meets ⟨_,ho,rr⟩ ⟨_,M,rr⟩ noFill_tuple_add seq_tuple_add slot_tuple_add entry_tuple_add (args_tuple_add_2 _ _)
   (tuple_addW1 t b vs.toArray ws.toArray n n2 dd O sl U (by simpa using hv) (by simp[hw])) ⟨ho,M,h1 hw⟩
 .refine concat_meets ⟨_,ho,rr⟩ ⟨_,M,rr⟩ noFill_tuple_add seq_tuple_add slot_tuple_add entry_tuple_add (args_tuple_add_2 _ _)
   (tuple_addW2 t b vs.toArray ws.toArray n n2 dd O sl U (by simpa using hv) (by simpa using hw) (by simp_all)) ⟨ho,M,?_⟩
  rw[e];exact h2 hw
noncomputable def cQ (n d:Nat):OI->Nat
 |none=>d
 |some v=>if v<0 then (v+(n:Int)).toNat else min v.toNat n
theorem Fw (n d:Nat):cQ n d none=d:=rfl
theorem Le (n d k:Nat):cQ n d (some (k:Int))=min k n:=by
 rfl
theorem Pg (n d:Nat)(hd:d<=n)(o:OI):cQ n d o<=n:=by
 cases o with
 |none=>exact hd
 |some v=>
  show(if v<0 then (v+(n:Int)).toNat else min v.toNat n)<=n;by_cases hv:v<0
  .rw[if_pos hv];lia
  .rw[if_neg hv];exact Nat.min_le_right _ _
theorem Bt (v:Int)(n d:Nat):(if v<0 then max (v+(n:Int)) 0 else min v (n:Int))=((cQ n d (some v):Nat):Int):=by
 show(if v<0 then max (v+(n:Int)) 0 else min v (n:Int))=(((if v<0 then (v+(n:Int)).toNat else min v.toNat n):Nat):Int);grind
theorem zY (lo hi:OI)(n:Nat):Builtin.Slice.sliceAdjust lo hi 1 (n:Int)=(((cQ n 0 lo:Nat):Int),((cQ n n hi:Nat):Int)):=by
 have h1:¬((1:Int)<0):=N9
 unfold Builtin.Slice.sliceAdjust;simp only[h1,if_false];refine Prod.ext ?_ ?_
 .cases lo with
  |none=>rfl
  |some v=>exact Bt v n 0
 .cases hi with
  |none=>rfl
  |some v=>exact Bt v n n
theorem zZ (i j:Nat):Builtin.Slice.slicePlaces (i:Int) (j:Int) 1=j - i:=by
 unfold Builtin.Slice.slicePlaces;simp<;>lia
theorem pM (p:IsPart v o)(h:Q o s):wpAny (model prog w) A (Builtin.Slice.slicePartIndex v) Q E s:=by
 cases p with
 |none=>exact slicePart_none h
 |int i t=>exact slicePart_int h
theorem gR {sl:Addr}{vl U:Value}{lo hi:OI}{n:Nat}{Q:Int×Int×Nat->Shared->Prop}(hs:s.heap.IsSliceOf sl vl U .none)(pl:IsPart vl lo)(a:IsPart U hi)
  (h:Q (((cQ n 0 lo:Nat):Int),1,cQ n n hi - cQ n 0 lo) s):wpAny (model prog w) A (Builtin.Slice.sliceApplied (.ref sl) (pure (n:Int))) Q E s:=by
 obtain⟨os,M,b,O⟩:=id hs;unfold Builtin.Slice.sliceApplied Builtin.Slice.sliceFields;refine wX (wX (wpAny_field M O (x:=vl) rr (wX (wpAny_field M O (x:=U) rr (wX (wpAny_field M O (x:=.none) rr (wY ?_)))))));refine wX (slicePart_none ?_);show wpAny _ _ (if((1:Int) == 0)=true then _ else _) _ _ s;rw[if_neg Z9];refine wX (pM pl (wX (pM a (wX (wY ?_)))));show wpAny _ _ (match Builtin.Slice.sliceAdjust lo hi 1 (n:Int) with|(lo,hi)=>pure (lo,(1:Int),Builtin.Slice.slicePlaces lo hi 1)) _ _ s;rw[zY lo hi n];show wpAny _ _ (pure (((cQ n 0 lo:Nat):Int),(1:Int),Builtin.Slice.slicePlaces ((cQ n 0 lo:Nat):Int) ((cQ n n hi:Nat):Int) 1)) _ _ s;rw[zZ];exact wY h
theorem Fx (xs:AV)(i k:Nat):((List.range k).filterMap λ(m:Nat)=>xs[((i:Int)+(m:Int)*1).toNat]?).toArray=((xs.toList.drop i).take k).toArray:=by
 have e:(λ(m:Nat)=>xs[((i:Int)+(m:Int)*1).toNat]?)=λm=>xs[i+m]?:=by
  funext m;have:((i:Int)+(m:Int)*1).toNat=i+m:=N9
  rw[this]
 rw[e];have:=pick_run xs i k;rw[List.filterMap_map]at this;have e2:((λx=>xs[x]?) ∘ λx=>i+x)=λm=>xs[i+m]?:=rr;simp_all
theorem l8 {t sl:Addr}{items:AV}{vl b:Value}{lo hi:OI}{Q:QV}(O:IsTup s.heap t items)(hs:s.heap.IsSliceOf sl vl b .none)(pl:IsPart vl lo)(c:IsPart b hi)
  (hw:¬(cQ items.size 0 lo=0/\cQ items.size items.size hi=items.size))
  (h:Q (.ref s.z) { s with heap:=s.heap.push { cls:=.type "tuple",data:=.seq ((items.toList.drop (cQ items.size 0 lo)).take (cQ items.size items.size hi - cQ items.size 0 lo)).toArray } })
  (hsz:items.size<=sizeLine):wpAny (model prog w) A (getItem (.ref t) (.ref sl)) Q E s:=by
 have M:sizeOk (.seq ((items.toList.drop (cQ items.size 0 lo)).take (cQ items.size items.size hi - cQ items.size 0 lo)).toArray):=by
  show((items.toList.drop (cQ items.size 0 lo)).take (cQ items.size items.size hi - cQ items.size 0 lo)).toArray.size<=sizeLine
  exact Nat.le_trans (((items.toList.drop _).take_sublist _).trans (items.toList.drop_sublist _)).length_le hsz
 have hj:cQ items.size items.size hi<=items.size:=Pg _ _ (vT _) hi
 obtain⟨os,U,d,f⟩:=id hs
 have a:s.TypeIs (.ref sl) "slice":=⟨os,U,d⟩
 unfold getItem
 try with_reducible refine wpAny_holding ?_
 first|refine wX (wY ?_)|skip
 refine wX (wpAny_sequenceKey O.typeIs Z9 ?_)
 refine wX (wpAny_callSpecial?_slot (name:=Str.ofString "__getitem__") O.typeIs PyProof.Rows.slot_tuple_getitem
  (wpAny_call_entry PyProof.Rows.slot_tuple_getitem O.typeIs entry_tuple_getitem ?_ (args_tuple_getitem _ _)))
 show wpAny _ _ (Builtin.Tuple.tupleItemsOf (.ref t)>>=_) _ _ s
 refine wX (tupleItemsOf_ O ?_)
 refine wX (wpAny_typeOf a ?_)
 rw[if_pos Z9]
 refine wX (gR hs pl c ?_)
 have e:¬((((cQ items.size 0 lo:Nat):Int) == 0 && (1:Int) == 1 && (cQ items.size items.size hi - cQ items.size 0 lo) == items.size)=true):=by
  simp_all
 show wpAny _ _ (if(((cQ items.size 0 lo:Nat):Int) == 0 && (1:Int) == 1 && (cQ items.size items.size hi - cQ items.size 0 lo) == items.size)=true then _ else _) _ _ s
 rw[if_neg e,Fx]
 first
  |exact wX (m:=Builtin.Tuple.tupleExact _) (wpAny_newObj_type (wY ⟨_,rr,wY h⟩) M)
  |exact wX (m:=Builtin.Tuple.tupleExact _) (wpAny_newObj_type (wX (wY (wY ⟨_,rr,wY h⟩))) M)
  |exact wX (wX (m:=Builtin.Tuple.tupleExact _) (wpAny_newObj_type (wY (wY ⟨_,rr,wY h⟩)) M))
  |exact wX (wX (m:=Builtin.Tuple.tupleExact _) (wpAny_newObj_type (wY ⟨_,rr,wY h⟩) M))
end
end HT
namespace L2
open PySem PySem.Spec PyProof.Rows
abbrev TO:=St->Hp->(OI->Hp->Prop)->Prop
def PO (X:Cx)(e:Option Expr)(t:TO):Prop:=
 ∀(af:AO)(s:Shared)(σ:St)(H:Hp)(Q:OI->Hp->Prop),Inv X af σ H s->t σ H Q ->
  wq X (evalPart e X.env) (λu s'=>∃o H',Inv X af σ H' s'/\IsPart u o/\Q o H') X.xe s
def Lf:TO:=λ_ H Q=>Q none H
def T6 (t:TE):TO:=λσ H Q=>t σ H λx M=>∃i,x=.int i/\Q (some i) M
section
variable {X:Cx}{e:Expr}{te:TE}{lo hi:Option Expr}{tl th:TO}{pos p2:Pos}
theorem Lg:PO X none Lf:=by
 intro af s σ H Q I h;rw[evalPart_none];exact wY ⟨none,H,I,.none,h⟩
theorem Lh (h:PE X e te):PO X (some e) (T6 te):=by
 intro af s σ H Q I hw;rw[evalPart_some];refine bJ (h af s σ H _ I hw) λu s1 ⟨x,M,O,U,a⟩=>?_;obtain⟨i,rfl,q⟩:=a;obtain⟨t,rfl⟩:=U;exact⟨some i,M,O,.int i t,q⟩
def EY (X:Cx)(r:V->OI->OI->Hp->VK->Prop):Prop:=
 ∀(af:AO)(s:Shared)(σ:St)(H:Hp)(x:V)(v vl M:Value)(lo hi:OI)(sl:Addr)(Q:VK),Inv X af σ H s->aG x v->s.heap.IsSliceOf sl vl M .none->IsPart vl lo->IsPart M hi->r x lo hi H Q ->
  ∃T id,typeLookup (.type T) "__getitem__" = pure (some (.builtin id))/\s.TypeIs v T/\wq X (getItem v (.ref sl)) (EP X af σ Q) X.xe s
theorem EY.or (h:EY X r)(h':EY X r'):EY X (λx lo hi H Q=>r x lo hi H Q\/r' x lo hi H Q):=by
 intro af s σ H x v vl M lo hi sl Q I O hs pl U q;rcases q with q|q
 .exact h af s σ H x v vl M lo hi sl Q I O hs pl U q
 .exact h' af s σ H x v vl M lo hi sl Q I O hs pl U q
def tSl (r:V->OI->OI->Hp->VK->Prop)(te:TE)(tl th:TO):TE:=λσ H Q=>te σ H λx M=>tl σ M λl H2=>th σ H2 λu O=>r x l u O Q
theorem Fy (hr:EY X r)(he:PE X e te)(hl:PO X lo tl)(hu:PO X hi th):PE X (.Subscript e (.Slice lo hi none p2) pos) (tSl r te tl th):=by
 intro af s σ H Q I h;refine Subscript_ (bJ (he af s σ H _ I h) λv s1 ⟨x,a,c,d,f⟩=>?_);refine wpAny_Slice (bJ (hl af s1 σ a _ c f) λvl s2 ⟨l,H2,g,pl,q2⟩=>bJ (hu af s2 σ H2 _ g q2) λO M ⟨u,U,i,j,k⟩=>?_);rw[evalPart_none];refine wY ?_;have m:Inv X af σ U { M with heap:=M.heap.push { cls:=.type "slice",data:=.fields #[vl,O,.none] } }:=i.kept (t':=M.toks) λb ob q=>vZ _ q;obtain⟨T,id,n,o,p⟩:=hr af { M with heap:=M.heap.push { cls:=.type "slice",data:=.fields #[vl,O,.none] } } σ U x v vl O l u M.z Q m d (Heap.IsSliceOf.new ..) pl j k;show wq X (subscriptTail e (.Slice lo hi none p2) v (.ref M.z)) (EP X af σ Q) X.xe { M with heap:=M.heap.push { cls:=.type "slice",data:=.fields #[vl,O,.none] } };exact tail_any (ops:=[.ref M.z,v]) o n p (by with_unfolding_all rfl)
def su (xs:List V)(lo hi:OI):List V:=(xs.drop (HT.cQ xs.length 0 lo)).take (HT.cQ xs.length xs.length hi - HT.cQ xs.length 0 lo)
theorem oi (xs:List V)(lo hi:OI):(su xs lo hi).length<=xs.length:=by
 unfold su;rw[length_take,length_drop];lia
def WZ (K:Frag):V->OI->OI->Hp->VK->Prop:=λx lo hi H Q=>∃a xs,x=.ref a/\fL K H a xs /\
 ¬(HT.cQ xs.length 0 lo=0/\HT.cQ xs.length xs.length hi=xs.length)/\∀p,H p=none->Q (.ref p) (upd H p (.tup (su xs lo hi)))
theorem Ph:EY X (WZ X.K):=by
 intro af s σ H x v vl d lo hi sl Q I U hs pl c h;obtain⟨a,xs,rfl,hx,hw,q⟩:=h;cases U
 obtain⟨its,r,O,hz⟩:=I.tuple hx;have M:its.toArray.size=xs.length:=by rw[vG];exact r.length.symm
 refine⟨"tuple",_,PyProof.Rows.slot_tuple_getitem.lookup,O.typeIs,?_⟩;refine HT.l8 O hs pl c (by rw[M];exact hw) ?_ (by rw[M];exact hz);rw[M];refine⟨.ref s.z,_,I.laid (t':=s.toks) (o:=.tup (su xs lo hi)) (λb ob q=>vZ _ q) (vT _) ?_,rr,q _ (I.hok.fresh (vT _))⟩;exact⟨vR (oi xs lo hi) hz,_,(r.drop (HT.cQ xs.length 0 lo)).take (HT.cQ xs.length xs.length hi - HT.cQ xs.length 0 lo),IsTup.new _ _⟩
def T7 (K:Frag):R2:=λx y H Q=>∃a b xs ys,x=.ref a/\y=.ref b/\fL K H a xs/\fL K H b ys/\xs≠[]/\xs.length+ys.length<=sizeLine /\
 (ys=[]->Q (.ref a) H)/\(ys≠[]->∀p,H p=none->Q (.ref p) (upd H p (.tup (xs++ys))))
theorem aF.nil_iff (r:aF xs us):us=[]↔xs=[]:=by
 cases r with
 |nil=>simp
 |cons _ _=>simp
theorem Li:cj X (binaryOp .Add) (T7 X.K):=by
 intro af s σ H x y v u Q I c d h;obtain⟨a,b,xs,ys,rfl,rfl,ha,hb,hx,hz,f,q2⟩:=h;cases c
 cases d
 obtain⟨its,O,g,_⟩:=I.tuple ha;obtain⟨U,M,p2,_⟩:=I.tuple hb;refine HT.Ld g p2 (λz=>hx (O.nil_iff.mp z)) (λz=>⟨.ref a,H,I,rr,f (M.nil_iff.mp z)⟩) (λz=>?_) (by rw[<-O.length,<-M.length];exact hz);refine⟨.ref s.z,_,I.laid (t':=s.toks) (o:=.tup (xs++ys)) (λb ob q=>vZ _ q) (vT _) ?_,rr,q2 (λw=>z (M.nil_iff.mpr w)) _ (I.hok.fresh (vT _))⟩;exact⟨by rw[uY];exact hz,_,O.append M,IsTup.new _ _⟩
end
noncomputable def EZ (n:Nat)(i:Int):Option Nat:=if 0<=i then (if i<n then some i.toNat else none)else if -(n:Int)<=i then some (i+n).toNat else none
noncomputable def l5 {α:Type}(xs:List α)(i:Int):Option α:=(EZ xs.length i).bind λj=>xs[j]?
theorem Bu (h:EZ n i=some j):seqIndex? i n=some j/\j<n/\-(n:Int)<=i/\i<n:=by
 unfold EZ at h;by_cases h0:0<=i
 .rw[if_pos h0]at h;by_cases h1:i<n
  .rw[if_pos h1]at h;have e:i.toNat=j:=vK h;exact⟨by rw[seqIndex_of h0 h1,e],N9,N9,h1⟩
  simp_all
 .rw[if_neg h0]at h;by_cases h1 : -(n:Int)<=i
  .rw[if_pos h1]at h;have e:(i+n).toNat=j:=vK h;exact⟨by rw[seqIndex_neg N9 h1,e],N9,h1,N9⟩
  simp_all
theorem uF {α:Type}{xs:List α}{i:Int}{v:α}(h:l5 xs i=some v):∃j,seqIndex? i xs.length=some j/\xs[j]? = some v/\j<xs.length/\-(xs.length:Int)<=i/\i<xs.length:=by
 unfold l5 at h;cases e:EZ xs.length i with
 |none=>rw[e]at h;cases h
 |some j=>
  rw[e]at h;obtain⟨h1,h2,h3,h4⟩:=Bu e;exact⟨j,h1,h,h2,h3,h4⟩
theorem Lj {α:Type}{xs:List α}{j:Nat}{v:α}(h:xs[j]? = some v):l5 xs (j:Int)=some v:=by
 have hj:j<xs.length:=(vV h).1;simp_all[EZ,l5]
def lA (b:Expr):Prop:=∀o i,subscripted b false o i=operate [o,i] (getItem o i)
def Fz (X:Cx)(r:R2):Prop:=
 ∀(O M:Expr)(af:AO)(s:Shared)(σ:St)(H:Hp)(x y:V)(v u:Value)(Q:VK),Inv X af σ H s->aG x v->aG y u->r x y H Q ->
  subscripted M false v u=operate [v,u] (getItem v u)->wq X (subscriptTail O M v u) (EP X af σ Q) X.xe s
def K8 (X:Cx)(id:String)(r:V->List V->Hp->VK->Prop):Prop:=
 ∀(af:AO)(s:Shared)(σ:St)(H:Hp)(x:V)(xs:List V)(v:Value)(us:LU)(Q:VK),Inv X af σ H s->aG x v->aF xs us->r x xs H Q ->
  wq X (call (.builtin id) (v::us)) (EP X af σ Q) X.xe s
section
variable {X:Cx}{a b:Expr}{ta tb:TE}{pos:Pos}
theorem F0 (hr:Fz X r)(ha:PE X a ta)(hb:PE X b tb)(hs:lA b):PE X (.Subscript a b pos) (Wj r ta tb):=by
 intro af s σ H Q I h;exact Subscript_ (OT ha hb I h λv u s2 x y H2 M O U q=>hr a b af s2 σ H2 x y v u Q M O U q (hs _ _))
def Xa (K:Frag):R2:=λx y H Q=>∃p xs i v,x=.ref p/\y=.int i/\dW K H p xs/\l5 xs i=some v/\Q v H
def Xb (K:Frag):R2:=λx y H Q=>∃p xs i v,x=.ref p/\y=.int i/\fL K H p xs/\l5 xs i=some v/\Q v H
def Xc:R2:=λx y H Q=>∃z i c,x=.str z/\y=.int i/\z.length<=sizeLine/\l5 z.cps.toList i=some c/\Q (.str ⟨#[c]⟩) H
theorem Lk:Fz X (Xa X.K):=by
 intro M O af s σ H x y v u Q I d e h hs;obtain⟨p,xs,i,z,rfl,rfl,hq,he,q⟩:=h;cases d
 obtain⟨t,rfl⟩:=e;obtain⟨its,r,pl,hz⟩:=I.list hq;obtain⟨j,h1,h2,h3,h4,h5⟩:=uF he;obtain⟨w,c,U⟩:=r.get h2;have hl:=r.length;have hn:=mN;have dv:EP X af σ Q w s:=⟨z,H,I,U,q⟩;by_cases h0:0<=i
 .have hj:i.toNat=j:=by
   rw[seqIndex_of h0 h5]at h1;exact vK h1
  exact item_listR pl.isList h0 N9 (by rw[hj];simpa using c) dv hs
 .have hj:(i+(its.toArray.size:Int)).toNat=j:=by
   rw[seqIndex_neg N9 h4]at h1;rw[vG,<-hl];exact vK h1
  exact subscriptTail_builtinR (x:=w) pl.isList.typeIs slot_list_getitem.lookup
   (wpAny_getItem_list_neg (Q:=λr s'=>r=w/\EP X af σ Q r s') pl.isList N9 (by rw[vG]<;>lia) N9 (by rw[hj];simpa using c) ⟨rr,dv⟩) hs
theorem F3:Fz X (Xb X.K):=by
 intro M O af s σ H x y v u Q I c d h hs;obtain⟨p,xs,i,z,rfl,rfl,hq,he,q⟩:=h;cases c
 obtain⟨t,rfl⟩:=d;obtain⟨its,r,pl,hz⟩:=I.tuple hq;obtain⟨j,h1,h2,h3,h4,h5⟩:=uF he;obtain⟨w,e,U⟩:=r.get h2;have hl:=r.length;have hn:=mN;have dv:EP X af σ Q w s:=⟨z,H,I,U,q⟩;exact subscriptTail_builtinR (x:=w) pl.typeIs slot_tuple_getitem.lookup
  (getItem_tuple (j:=j) (Q:=λr s'=>r=w/\EP X af σ Q r s') pl N9 N9 (by simp_all) (by simpa using e) ⟨rr,dv⟩) hs
theorem Aa:Fz X Xc:=by
 intro M O af s σ H x y v u Q I U d h hs;obtain⟨z,i,c,rfl,rfl,hz,he,q⟩:=h;obtain⟨t,rfl⟩:=U;obtain⟨t',rfl⟩:=d;obtain⟨j,h1,h2,h3,h4,h5⟩:=uF he;have hl:z.cps.toList.length=z.length:=by simp[Str.length]
 rw[hl]at h1 h4 h5;have hn:=mN;exact tail_any (typeIs_str s z t) slot_str_getitem.lookup (getItem_str (c:=c) (by
  lia) (by rw[h1];simpa using h2) ⟨.str ⟨#[c]⟩,H,I.tok _,⟨_,rr⟩,q⟩) hs
theorem Ab (its:LU)(n j:Nat)(u:Value):Obj.mapSeq (·.setIfInBounds j u) { cls:=.type "list",data:=.seq its.toArray n }={ cls:=.type "list",data:=.seq (its.set j u).toArray n }:=by
 simp[Obj.mapSeq]
theorem Inv.lst (I:Inv X af σ H s)(h:H p=some (.lst xs)):
  ∃(its:LU)(n:Nat),aF xs its/\s.heap.get? p=some { cls:=.type "list",data:=.seq its.toArray n }/\xs.length<=sizeLine:=by
 obtain⟨z,its,n,r,e⟩:=I.hok p _ h;exact⟨its,n,r,e,z⟩
theorem Inv.lstUpd {af:AO}{σ:St}{H:Hp}{s:Shared}{p:Addr}{xs ys:List V}{its its':LU}{n M:Nat}{f:Obj->Obj}(I:Inv X af σ H s)(h:H p=some (.lst xs))
  (ho:s.heap.get? p=some { cls:=.type "list",data:=.seq its.toArray n }) (hf:f { cls:=.type "list",data:=.seq its.toArray n }={ cls:=.type "list",data:=.seq its'.toArray M }) (r:aF ys its') (hz:ys.length<=sizeLine) (t:Nat):
  Inv X af σ (upd H p (.lst ys)) { s with heap:=s.heap.update p f,toks:=t }:=by
 have e:(s.heap.update p f).get? p=some { cls:=.type "list",data:=.seq its'.toArray M }:=by
  rw[Heap.get?_update_self f ho (by rw[hf]<;>rfl),hf]
 refine I.write (x:=p) (e:=p) (by rw[h];trivial) (.inl rr) (λb u hb q=>(Heap.get?_update_other _ _ (Ne.symm hb)).trans q) ⟨_,e⟩ ?_;exact⟨hz,its',M,r,e⟩
def T8:V->V->V->Hp->(Hp->Prop)->Prop:=λo i v H Q=>∃p xs k j,o=.ref p/\i=.int k/\H p=some (.lst xs)/\EZ xs.length k=some j/\Q (upd H p (.lst (xs.set j v)))
theorem F4:Tj X T8:=by
 intro af s σ H o i v d iv u Q I O U c h;obtain⟨p,xs,k,j,rfl,rfl,hp,hj,q⟩:=h;cases O
 obtain⟨t,rfl⟩:=U;obtain⟨its,n,r,ho,hz⟩:=I.lst hp;obtain⟨h1,h2,h3,h4⟩:=Bu hj;have hl:=r.length;have hn:=mN;have M:Inv X af σ (upd H p (.lst (xs.set j v))) { s with heap:=s.heap.update p (Obj.mapSeq (·.setIfInBounds j u)) } :=
  I.lstUpd hp ho (Ab its n j u) (r.set c j) (by rw[length_set];exact hz) s.toks
 by_cases h0:0<=k
 .have hk:k.toNat=j:=by
   rw[seqIndex_of h0 h4]at h1;exact vK h1
  exact PySem.W.ki_setAt ho h0 N9 (by rw[vG,<-hl];exact h4) (by rw[hk];exact⟨_,M,q⟩)
 .have hk:(k+(its.toArray.size:Int)).toNat=j:=by
   rw[seqIndex_neg N9 h3]at h1;rw[vG,<-hl];exact vK h1
  exact PySem.W.ki_setBack ho N9 (by rw[vG,<-hl];exact h3) N9 (by rw[hk];exact⟨_,M,q⟩)
theorem xx10 (i:Int)(n:Nat):max 0 (min (if i<0 then i+n else i) n)=(((if i<0 then (i+n).toNat else min i.toNat n):Nat):Int):=by
 split
 .rw[Int.min_eq_left (by lia),Int.ofNat_toNat,Int.max_comm]
 .rename_i h;obtain⟨k,rfl⟩:=Int.eq_ofNat_of_zero_le (Int.not_lt.mp h);rw[Int.toNat_natCast,Int.max_eq_right (Int.le_min.mpr ⟨Int.not_lt.mp h,Int.natCast_nonneg n⟩)];rcases Nat.le_total k n with z|z
  .rw[Nat.min_eq_left z,Int.min_eq_left (Int.ofNat_le.mpr z)]
  .rw[Nat.min_eq_right z,Int.min_eq_right (Int.ofNat_le.mpr z)]
theorem uG (lo hi:OI)(n:Nat):(sliceBounds lo hi none n).1=((HT.cQ n 0 lo:Nat):Int)/\(sliceBounds lo hi none n).2.1=((HT.cQ n n hi:Nat):Int)/\(sliceBounds lo hi none n).2.2=1:=by
 refine⟨?_,?_,rr⟩
 .cases lo with
  |none=>rfl
  |some i=>exact xx10 i n
 .cases hi with
  |none=>rfl
  |some i=>exact xx10 i n
theorem sv (its:LU)(lo hi:OI):slicePick its.toArray lo hi none=((its.drop (HT.cQ its.length 0 lo)).take (HT.cQ its.length its.length hi - HT.cQ its.length 0 lo)).toArray:=by
 obtain⟨h1,h2,h3⟩:=uG lo hi its.toArray.size;unfold slicePick;rw[h1,h2,h3];simp only[sliceRange_one,pick_run,vG]<;>rfl
def Xd (K:Frag):V->OI->OI->Hp->VK->Prop:=λx lo hi H Q=>∃a xs,x=.ref a/\dW K H a xs/\∀p,H p=none->Q (.ref p) (upd H p (.lst (su xs lo hi)))
theorem Ll:EY X (Xd X.K):=by
 intro af s σ H x v vl d lo hi sl Q I U hs pl c h;obtain⟨a,xs,rfl,hx,q⟩:=h;cases U
 obtain⟨its,r,O,hz⟩:=I.list hx;have M:=r.length;refine⟨"list",_,slot_list_getitem.lookup,O.isList.typeIs,?_⟩;refine wpAny_getItem_list_slice O.isList hs pl c .none V9 ?_ (by rw[vG]<;>lia)
 rw[sv,<-M];refine⟨.ref s.z,_,I.laid (t':=s.toks) (o:=.lst (su xs lo hi)) (λb ob q=>vZ _ q) (vT _) ?_,rr,q _ (I.hok.fresh (vT _))⟩;exact⟨vR (oi xs lo hi) hz,_,0,(r.drop (HT.cQ xs.length 0 lo)).take (HT.cQ xs.length xs.length hi - HT.cQ xs.length 0 lo),vY _ rr⟩
noncomputable def kE:V->Bool
 |.non=>true
 |.bl _=>true
 |.int _=>true
 |.str _=>true
 |_=>false
noncomputable def Lm:V->V->Bool
 |.non,.non=>true
 |.bl a,.bl b=>a == b
 |.bl a,.int b=>(if a then 1 else 0) == b
 |.int a,.bl b=>a == (if b then 1 else 0)
 |.int a,.int b=>a == b
 |.str a,.str b=>a == b
 |_,_=>false
theorem Pj (O:aG y u)(M:aG x v)(U:kE y=true)(fx:kE x=true):SeqAt.EqAt A s u v (Lm y x):=by
 cases y with
 |non=>
  cases O
  cases x with
  |non=>cases M;exact SeqAt.EqAt.same _
  |bl b=>cases M;exact SeqAt.EqAt.none_bool b
  |int b=>obtain⟨t,rfl⟩:=M;exact SeqAt.EqAt.none_int b t
  |str b=>obtain⟨t,rfl⟩:=M;exact SeqAt.EqAt.none_str b t
  |_=>exact absurd (show false=true from fx) uW
 |bl a=>
  cases O
  cases x with
  |non=>cases M;exact SeqAt.EqAt.bool_none a
  |bl b=>cases M;exact SeqAt.EqAt.bool_bool a b
  |int b=>obtain⟨t,rfl⟩:=M;exact SeqAt.EqAt.bool_int a b t
  |str b=>obtain⟨t,rfl⟩:=M;exact SeqAt.EqAt.bool_str a b t
  |_=>exact absurd (show false=true from fx) uW
 |int a=>
  obtain⟨t',rfl⟩:=O;cases x with
  |non=>cases M;exact SeqAt.EqAt.int_none a t'
  |bl b=>cases M;exact SeqAt.EqAt.int_bool a t' b
  |int b=>obtain⟨t,rfl⟩:=M;exact SeqAt.EqAt.int_int a t' b t
  |str b=>obtain⟨t,rfl⟩:=M;exact SeqAt.EqAt.int_str a t' b t
  |_=>exact absurd (show false=true from fx) uW
 |str a=>
  obtain⟨t',rfl⟩:=O;cases x with
  |non=>cases M;exact SeqAt.EqAt.str_none a t'
  |bl b=>cases M;exact SeqAt.EqAt.str_bool a t' b
  |int b=>obtain⟨t,rfl⟩:=M;exact SeqAt.EqAt.str_int a t' b t
  |str b=>obtain⟨t,rfl⟩:=M;exact SeqAt.EqAt.str_str a t' b t
  |_=>exact absurd (show false=true from fx) uW
 |_=>exact absurd (show false=true from U) uW
noncomputable def Ac (x:V)(u:Value):Bool:=match u with
 |.none=>Lm .non x
 |.bool b=>Lm (.bl b) x
 |.int i _=>Lm (.int i) x
 |.str z _=>Lm (.str z) x
 |_=>false
theorem F5 (r:aG y u)(f:kE y=true):Ac x u=Lm y x:=by
 cases y with
 |non=>cases r;rfl
 |bl b=>cases r;rfl
 |int i=>obtain⟨t,rfl⟩:=r;rfl
 |str z=>obtain⟨t,rfl⟩:=r;rfl
 |_=>exact absurd (show false=true from f) uW
theorem lB:∀ {xs:List V}{us:LU},aF xs us->xs.all kE=true->us.any (Ac x)=xs.any λy=>Lm y x
 |_,_,.nil,_=>rr
 |y::xs,u::us,.cons r t,f=>by
  rw[all_cons,vB]at f;rw[any_cons,any_cons,F5 r f.1,lB t f.2]
theorem ji (M:aG x v)(fx:kE x=true):∀ {xs:List V}{us:LU},aF xs us->xs.all kE=true->∀u∈us,SeqAt.EqAt A s u v (Ac x u)
 |_,_,.nil,_=>λu hu=>by cases hu
 |y::xs,u::us,.cons r t,f=>λO hu=>by
  rw[all_cons,vB]at f;rcases vP hu with rfl|hu
  .rw[F5 r f.1];exact Pj r M f.1 fx
  .exact ji M fx t f.2 O hu
noncomputable def Wk (x:V)(xs:List V):Bool:=xs.any λy=>Lm y x
def Zh (K:Frag)(M:Bool):R2:=λx y H Q=>∃p xs,y=.ref p/\(dW K H p xs\/fL K H p xs)/\kE x=true/\xs.all kE=true/\Q (.bl (if M then !Wk x xs else Wk x xs)) H
theorem D8:cj X (compareOp .In) (Zh X.K false):=by
 intro af s σ H x y v u Q I M O h;obtain⟨p,xs,rfl,hq,fx,fs,q⟩:=h;cases O
 rcases hq with hq|hq
 .obtain⟨its,r,pl,hz⟩:=I.list hq;refine SeqAt.in_listAt (Ac x) pl.isList (λw hw=>ji M fx r fs w (by simpa using hw)) ⟨.bl _,H,I,rr,?_⟩;rw[show its.toArray.any (Ac x)=its.any (Ac x) by simp,lB r fs];exact q
 .obtain⟨its,r,pl,hz⟩:=I.tuple hq;refine SeqAt.in_tupleAt (Ac x) pl (λw hw=>ji M fx r fs w (by simpa using hw)) ⟨.bl _,H,I,rr,?_⟩;rw[show its.toArray.any (Ac x)=its.any (Ac x) by simp,lB r fs];exact q
theorem uH:cj X (compareOp .NotIn) (Zh X.K true):=by
 intro af s σ H x y v u Q I M O h;obtain⟨p,xs,rfl,hq,fx,fs,q⟩:=h;cases O
 rcases hq with hq|hq
 .obtain⟨its,r,pl,hz⟩:=I.list hq;refine SeqAt.notIn_listAt (Ac x) pl.isList (λw hw=>ji M fx r fs w (by simpa using hw)) ⟨.bl _,H,I,rr,?_⟩;rw[show its.toArray.any (Ac x)=its.any (Ac x) by simp,lB r fs];exact q
 .obtain⟨its,r,pl,hz⟩:=I.tuple hq;refine SeqAt.notIn_tupleAt (Ac x) pl (λw hw=>ji M fx r fs w (by simpa using hw)) ⟨.bl _,H,I,rr,?_⟩;rw[show its.toArray.any (Ac x)=its.any (Ac x) by simp,lB r fs];exact q
theorem uI:bH X (.builtin "len") (λxs H Q=>∃p ys,xs=[.ref p]/\(dW X.K H p ys\/fL X.K H p ys)/\Q (.int ys.length) H):=by
 intro af s σ H xs us Q I r h;obtain⟨p,ys,rfl,hq,q⟩:=h;obtain⟨u,rfl,U⟩:=fM r;cases U
 have hn:=mN;rcases hq with hq|hq
 .obtain⟨its,O,pl,hz⟩:=I.list hq;have M:=O.length;exact Calls.call_len_list pl.isList (by grind) ⟨.int ys.length,H,I.tok _,⟨s.toks+1,by rw[vG,M]⟩,q⟩
 .obtain⟨its,O,pl,hz⟩:=I.tuple hq;have M:=O.length;exact len_tuple pl (by grind) ⟨.int ys.length,H,I.tok _,⟨s.toks+1,by rw[vG,M]⟩,q⟩
theorem uJ:bH X (.builtin "len") (λxs H Q=>∃z,xs=[.str z]/\z.length<=sizeLine/\Q (.int z.length) H):=by
 intro af s σ H xs us Q I r h;obtain⟨z,rfl,hz,q⟩:=h;obtain⟨u,rfl,t,rfl⟩:=fM r;have hn:=mN;exact len_str N9 ⟨.int z.length,H,I.tok _,⟨_,rr⟩,q⟩
theorem bH.or (h:bH X f r)(h':bH X f O):bH X f (λxs H Q=>r xs H Q\/O xs H Q):=by
 intro af s σ H xs us Q I M q;rcases q with q|q
 .exact h af s σ H xs us Q I M q
 .exact h' af s σ H xs us Q I M q
theorem uK:bH X (.type "list") (λxs H Q=>∃p ys,xs=[.ref p]/\(dW X.K H p ys\/fL X.K H p ys)/\∀l,H l=none->Q (.ref l) (upd H l (.lst ys))):=by
 intro af s σ H xs us Q I r h;obtain⟨p,ys,rfl,hq,q⟩:=h;obtain⟨u,rfl,c⟩:=fM r;cases c
 have dv:∀(its:LU),aF ys its->ys.length<=sizeLine->∀(h':Heap)(M:Nat),(∀b o',s.heap.get? b=some o'->h'.get? b=some o') ->
   h'.get? s.z=some { cls:=.type "list",dict:=none,data:=.seq its.toArray M,slots:=#[] }->EP X af σ Q (.ref s.z) { s with heap:=h' }:=λits O hz h' M kp e=>
  ⟨.ref s.z,_,I.laid (t':=s.toks) kp (vT _) (show bc X.prog X.w _ h' _ (.lst ys)from ⟨hz,its,M,O,e⟩),rr,q _ (I.hok.fresh (vT _))⟩
 rcases hq with hq|hq
 .obtain⟨its,O,pl,hz⟩:=I.list hq;have U:=O.length;obtain⟨o,ho,hc,n,hd⟩:=pl.isList;exact call_list_seq p (.inl rr) ho hc hd (λh' M kp e=>dv its O hz h' M kp e) (by simp_all)
 .obtain⟨its,O,pl,hz⟩:=I.tuple hq;have U:=O.length;obtain⟨o,ho,hc,n,hd⟩:=pl;exact call_list_seq p (.inr rr) ho hc hd (λh' M kp e=>dv its O hz h' M kp e) (by simp_all)
theorem sx:bH X (.type "tuple") (λxs H Q=>∃p ys,xs=[.ref p]/\((dW X.K H p ys/\∀l,H l=none->Q (.ref l) (upd H l (.tup ys)))\/(fL X.K H p ys/\Q (.ref p) H))):=by
 intro af s σ H xs us Q I r h;obtain⟨p,ys,rfl,h⟩:=h;obtain⟨u,rfl,c⟩:=fM r;cases c
 rcases h with⟨hq,q⟩|⟨hq,q⟩
 .obtain⟨its,M,pl,hz⟩:=I.list hq;have O:=M.length;refine call_tuple_list pl.isList (λh' kp=>?_) (by simp_all);have U:Inv X af σ H { s with heap:=h' }:=I.kept (t':=s.toks) kp;have d:Inv X af σ (upd H h'.objs.size (.tup ys)) { s with heap:=h'.push { cls:=.type "tuple",data:=.seq its.toArray } } :=
   U.laid (t':=s.toks) (λb o e=>vZ _ e) (vT _) (show bc X.prog X.w _ _ _ (.tup ys)from ⟨hz,its,M,IsTup.new _ _⟩)
  exact⟨.ref h'.objs.size,_,d,rr,q _ (U.hok.fresh (vT _))⟩
 .obtain⟨its,M,pl,hz⟩:=I.tuple hq;exact call_tuple_same pl ⟨.ref p,H,I,rr,q⟩
def Xe (K:Frag)(T:String)(x:V)(H:Hp):Prop:=match x with
 |.str _=>T = "str"
 |.int _=>T = "int"
 |.ref p=>(T = "list"/\∃xs,dW K H p xs)\/(T = "tuple"/\∃o,K.lookup p=some o/\o.cls=.type "tuple"/\o.dict=none) \/
   (T = "dict"/\((∃a7 ob,H p=some (.dK a7 ob))\/∃a7,H p=some (.dT a7)))\/(T = "set"/\∃S n,H p=some (.set S n))
 |_=>False
theorem uL (I:Inv X af σ H s)(r:aG x v)(ty:Xe X.K T x H):
  s.TypeIs v T/\∀a,v=.ref a->∃ob,s.heap.get? a=some ob/\ob.dict=none:=by
 cases x with
 |str z=>
  obtain⟨t,rfl⟩:=r;cases (show T = "str" from ty)
  simp_all[typeIs_str]
 |int i=>
  obtain⟨t,rfl⟩:=r;cases (show T = "int" from ty)
  simp_all[typeIs_int]
 |ref p=>
  cases r
  rcases ty with⟨rfl,xs,hq⟩|⟨rfl,o,hk,hc,hd⟩|⟨rfl,hk⟩|⟨rfl,S,n,hk⟩
  .obtain⟨its,_,pl,_⟩:=I.list hq;refine⟨pl.isList.typeIs,λa e=>?_⟩;cases e
   obtain⟨o,n,e,c,hd,_⟩:=pl;exact⟨o,e,hd⟩
  .refine⟨⟨o,I.kIn p o hk,hc⟩,λa e=>?_⟩;cases e
   exact⟨o,I.kIn _ o hk,hd⟩
  .have z:∃o,s.heap.get? p=some o/\o.ExactDict:=by
    rcases hk with⟨a7,M,hk⟩|⟨a7,hk⟩
    .obtain⟨_,_,_,_,_,o,_,_,e,ex,_⟩:=I.hok p _ hk;exact⟨o,e,ex⟩
    .obtain⟨_,_,_,_,o,_,_,e,ex,_⟩:=I.hok p _ hk;exact⟨o,e,ex⟩
   obtain⟨o,e,ex⟩:=z;refine⟨⟨o,e,ex.1⟩,λa e2=>?_⟩;cases e2
   exact⟨o,e,ex.2.1⟩
  .obtain⟨o,_,_,_,e,ex,_⟩:=I.hok p _ hk;refine⟨⟨o,e,ex.1⟩,λa e2=>?_⟩;cases e2
   exact⟨o,e,ex.2.1⟩
 |_=>exact False.elim ty
def Xf (K:Frag)(T:String)(r:V->List V->Hp->VK->Prop)(to:TE):TE:=λσ H Q=>to σ H λx M=>Xe K T x M/\r x [] M Q
def tBM (K:Frag)(T:String)(r:V->List V->Hp->VK->Prop)(to:TE)(t:TA):TE:=λσ H Q=>to σ H λx M=>Xe K T x M/\t σ M λxs H2=>r x xs H2 Q
variable {o e:Expr}{es:QD}{to:TE}{t:TA}{name:Str}{bQ bq:Pos}{T id:String}{r:V->List V->Hp->VK->Prop}
theorem Pk (f:PlainAttrs T)(slot:Slot T name id)(U:typeOf (.builtin id)=pure (.type "method_descriptor"))(hm:K8 X id r)(ho:PE X o to)
  (M:attributeBase o name X.env (eval o X.env)=eval o X.env:=by rfl) (O:(bQ.endLine == bq.line)=true:=by rfl):PE X (.Call (.Attribute o name bQ) [] [] bq) (Xf X.K T r to):=by
 intro af s σ H Q I h;refine wpAny_Call_method0_late M O (bJ (ho af s σ H _ I h) λv s1 ⟨x,g,c,d,ty,i⟩=>?_);obtain⟨h1,h2⟩:=uL c d ty;exact⟨T,id,f,slot,U,h1,h2,Calls.callWith_builtin rr (PySem.evalArgs_none (hm af s1 σ g x [] v [] Q c d .nil i))⟩
theorem xD (g:PlainAttrs T)(slot:Slot T name id)(i:typeOf (.builtin id)=pure (.type "method_descriptor"))(hm:K8 X id r)(ho:PE X o to)(ha:PA X (e::es) t)
  (O:attributeBase o name X.env (eval o X.env)=eval o X.env:=by rfl)
  (j:((backTo bq (starEach (e::es) X.env)).all (λx=>!x.1) && (backToKw bq (keywordEach [] X.env)).all (λx=>x.1.isSome)
   && decide ((e::es).length+([]:List Keyword).length+(if([]:List Keyword).isEmpty then 0 else 1)<30))=true:=by rfl)
  (U:(bQ.endLine == bq.line)=true:=by rfl) (hs:starEach (e::es) X.env=(false,eval e X.env)::starEach es X.env:=by rfl) (M:(backTo bq (starEach es X.env)).any (·.1)=false:=by rfl):
  PE X (.Call (.Attribute o name bQ) (e::es) [] bq) (tBM X.K T r to t):=by
 intro af s σ H Q I h;refine wpAny_Call_method_late O j U rr (bJ (ho af s σ H _ I h) λv s1 ⟨x,k,c,d,ty,l⟩=>?_);obtain⟨h1,h2⟩:=uL c d ty;refine⟨T,id,g,slot,i,h1,h2,?_⟩;have f:=ha bq af s1 σ k _ c l;rw[hs]at f |-;refine Calls.callWith_builtin (by show(false || (backTo bq (starEach es X.env)).any (·.1))=false;rw[M]<;>rfl) (Calls.evalArgs_plain ?_)
 exact bJ f λus s2 ⟨vs,H2,m,n,q2⟩=>hm af s2 σ H2 x vs v us Q m d n q2
/- xs.append(e),list.index on a module's tuple .. are K8 facts of 06m -/
end
def Wl (X:Cx)(id:String)(r:V->List V->Hp->VK->Prop):Prop:=
 ∀(af:AO)(s:Shared)(σ:St)(H:Hp)(x:V)(xs:List V)(v:Value)(us:LU)(Q:VK),Inv X af σ H s->aG x v->aF xs us->r x xs H Q ->
  wq X (call (.builtin id) (v::us)) (EP X af σ Q) X.xe s
theorem aF.one {x:V}{us:LU}(h:aF [x] us):∃u,us=[u]/\aG x u:=by
 cases h with
 |cons r h=>cases h;exact⟨_,rr,r⟩
theorem aF.two {x y:V}{us:LU}(h:aF [x,y] us):∃u v,us=[u,v]/\aG x u/\aG y v:=by
 cases h with
 |cons r h=>
  grind[aF.one]
theorem aF.zero:∀ {us:LU},aF [] us->us=[]
 |_,.nil=>rr
theorem aF.dropLast (h:aF xs us):aF xs.dropLast us.dropLast:=by
 induction h with
 |nil=>exact .nil
 |cons r t M=>
  cases t with
  |nil=>exact .nil
  |cons q t'=>exact .cons r M
theorem aF.rep (h:aF xs us):∀k:Nat,aF (List.replicate k xs).flatten (List.replicate k us).flatten
 |0=>.nil
 |k+1=>by
  rw[replicate_succ,replicate_succ,flatten_cons,flatten_cons];exact aF.append h (aF.rep h k)
theorem sZ (its:LU):∀(k:Nat)(acc:LU),
  List.foldl (λM O=>M++O) acc.toArray (List.replicate k its.toArray)=(acc++(List.replicate k its).flatten).toArray
 |0,acc=>by simp
 |k+1,acc=>by
  have e:acc.toArray++its.toArray=(acc++its).toArray:=V9
  have e2:(acc++its)++(List.replicate k its).flatten=acc++(List.replicate (k+1) its).flatten:=by
   grind
  rw[<-e2,<-sZ its k (acc++its),<-e,replicate_succ,foldl_cons]
section
variable {X:Cx}{af:AO}{σ:St}{H:Hp}{s:Shared}{l b:Addr}{xs ys zs:List V}
theorem Inv.lset {its its':LU}{n:Nat}{f:AV->AV}{t':Nat}(I:Inv X af σ H s)(M:H l=some (.lst xs))
  (e:s.heap.get? l=some { cls:=.type "list",data:=.seq its.toArray n }) (hf:f its.toArray=its'.toArray) (hv:aF ys its') (hz:ys.length<=sizeLine):
  Inv X af σ (upd H l (.lst ys)) { s with heap:=s.heap.update l (Obj.mapSeq f),toks:=t' }:=by
 have q:=PySem.IsL.update e f;rw[hf]at q;refine I.write (x:=l) (e:=l) (by rw[M];exact trivial) (.inl rr) (λb' u hb hu=>(Heap.get?_update_other s.heap (Obj.mapSeq f) (Ne.symm hb)).trans hu) ⟨_,q⟩ ?_;exact⟨hz,its',_,hv,q⟩
theorem Inv.lnew (I:Inv X af σ H s)(hv:aF ys its)(hz:ys.length<=sizeLine):
  Inv X af σ (upd H s.z (.lst ys)) { s with heap:=s.heap.push { cls:=.type "list",data:=.seq its.toArray },toks:=t' } :=
 I.laid (λ_ _ q=>vZ _ q) (vT _) ⟨hz,its,0,hv,vY _ rr⟩
theorem Inv.fresh (I:Inv X af σ H s):H s.z=none:=I.hok.fresh (vT _)
theorem Inv.lstM (I:Inv X af σ H s)(M:H l=some (.lst xs)):xs.length<=sizeLine/\∃(its:LU)(n:Nat),aF xs its/\xs.length=its.length/\s.heap.get? l=some { cls:=.type "list",data:=.seq its.toArray n }:=by
 obtain⟨z,its,n,r,e⟩:=I.hok l _ M;exact⟨z,its,n,r,r.length,e⟩
theorem F6 (h:n<=sizeLine):Builtin.List.listTooLong n=false:=by
 simp_all[Builtin.List.listTooLong]
end
section
variable {X:Cx}
def Bv:V->List V->Hp->VK->Prop:=λx vs H Q=>∃l xs y,x=.ref l/\vs=[y]/\H l=some (.lst xs)/\xs.length<sizeLine/\Q .non (upd H l (.lst (xs++[y])))
theorem tj:Wl X "list.append" Bv:=by
 intro af s σ H x vs v us Q I O U h;obtain⟨l,xs,y,rfl,rfl,M,hz,q⟩:=h;cases O
 obtain⟨u,rfl,ru⟩:=U.one;obtain⟨z,its,n,r,hl,e⟩:=I.lstM M;refine call_meets F.slot_list_append ⟨_,e,rr⟩ F.entry_list_append (F.args_list_append_2 _ _) (PySem.list_append l its.toArray n u (by rw[vG];lia)) ⟨e,?_⟩;refine⟨.non,_,I.lset (its':=its++[u]) M e V9 (r.append (.cons ru .nil)) ?_,rr,q⟩;simp<;>lia
def Ln:V->List V->Hp->VK->Prop:=λx vs H Q=>∃l b xs zs,x=.ref l/\vs=[.ref b]/\H l=some (.lst xs)/\H b=some (.lst zs)/\xs.length+zs.length<=sizeLine/\Q .non (upd H l (.lst (xs++zs)))
theorem D9:Wl X "list.extend" Ln:=by
 intro af s σ H x vs v us Q I a c h;obtain⟨l,b,xs,zs,rfl,rfl,U,d,hz,q⟩:=h;cases a
 obtain⟨u,rfl,ru⟩:=c.one;cases ru
 obtain⟨z,its,n,r,hl,e⟩:=I.lstM U;obtain⟨g,M,n2,f,i,e2⟩:=I.lstM d;have hsz:its.toArray.size+M.toArray.size<=sizeLine:=by simp_all
 have O:¬(!its.toArray.isEmpty && Builtin.List.listTooLong (its.toArray.size+M.toArray.size))=true:=by
  simp_all[F6]
 refine call_meets F.slot_list_extend ⟨_,e,rr⟩ F.entry_list_extend (F.args_list_extend_2 _ _)
  (AutoSeq1.list_extend_list_list_0 l its.toArray n b M.toArray n2 O (by rw[vG];lia) N9) ⟨e,e2,?_⟩
 refine⟨.non,_,I.lset (its':=its++M) U e V9 (r.append f) ?_,rr,q⟩;simp_all
def Xg:V->List V->Hp->VK->Prop:=λx vs H Q=>∃l xs y,x=.ref l/\vs=[]/\H l=some (.lst xs)/\xs[xs.length - 1]? = some y/\Q y (upd H l (.lst xs.dropLast))
theorem Pl:Wl X "list.pop" Xg:=by
 intro af s σ H x vs v us Q I a b h;obtain⟨l,xs,y,rfl,rfl,U,hy,q⟩:=h;cases a
 have M:=b.zero;subst M;obtain⟨z,its,n,r,hl,e⟩:=I.lstM U;obtain⟨u,hu,ru⟩:=r.get hy;have O:its.toArray[its.toArray.size - 1]? = some u:=by
  simp_all
 refine call_meets F.slot_list_pop ⟨_,e,rr⟩ F.entry_list_pop (F.args_list_pop_1 _) (MeetsSeq.list_pop_last l its.toArray n u O (by rw[vG];lia)) ⟨e,?_⟩;refine⟨y,_,I.lset (its':=its.dropLast) U e ?_ r.dropLast ?_,ru,q⟩
 .simp
 simp<;>lia
theorem Lo {α:Type}(xs:List α)(k:Nat):(List.replicate k xs).flatten.length=k*xs.length:=by
 simp
end
end L2
namespace Att
open PySem PySem.W PySem.Calls PyProof.Rows
theorem pe:∀(ns:LI)(vs:LU),WellAll P h vs (ns.map WData.int)->IntsAre vs ns:=by
 intro ns;induction ns with
 |nil=>
  intro vs w;rw[List.map_nil]at w;cases w
  exact .nil
 |cons n ns M=>
  intro vs w;rw[uX]at w;cases w with
  |cons a b=>
   cases a
   exact .cons _ _ (M _ b)
theorem DA {l:OpenLaw}{n:Nat}(hn:l.most=some n){P:Params}{h:Heap}{args:List WData}{vals:LU}
  (M:l.row.toRowW.claim.pre args=true) (b:WellAll P h vals args):
  ∃a vs ns,vals=[Value.ref a]/\args=[WData.list (ns.map WData.int)]/\h.get? a=some { cls:=.type "list",data:=.seq vs.toArray }/\IntsAre vs ns/\ns.length<=n:=by
 have c:WShape.hasAll [] args [.list .int]=true:=(pre_splitW M).1;have hc:l.pre.holds [] { args:=args }=true:=(pre_splitW M).2;obtain⟨d,r,rfl,h1,h2⟩:=hasAllW_cons c;obtain rfl:=hasAllW_nil h2;obtain⟨xs,rfl,h3⟩:=hasW_list h1;obtain⟨ns,rfl⟩:=items_int h3;have O:ns.length<=n:=by
  unfold OpenLaw.pre at hc;have h4:(WTm.not (.lt (.lit (.int (n:Int))) (.len (.arg 0)))).holds [] { args:=[.list (ns.map .int)] }=true:=by
   have h4:=(holds_andW hc).1;rw[hn]at h4;exact h4
  have h5:=condW_of h4 (w_not (w_lt w_lit (w_len_list (w_arg rr))));simp_all
 cases b with
 |cons e f=>
  cases f
  cases e with
  |list ho U=>exact⟨_,_,ns,rr,rr,ho,pe ns _ U,O⟩
theorem DB (l:OpenLaw)(args:List WData):l.row.toRowW.claim.post args (.bool true) args=true:=
 postW_of (r:=l.row.toRowW) (X:=(true == true))
  (show WShape.has [] (.bool true) .bool=true by rfl)
  (show(WTm.eq .res (.lit (.bool true))).value [] { args:=args,res:=some (.bool true),after:=args }=some (.bool (true == true))from w_eq_bool (w_res rr) w_lit) rr
section
variable {prog:Program}{w:World}{A:Around}{E:QV}{s:Shared}{K:Frag}
end
end Att
namespace L2
open PySem PySem.Spec PyProof.Rows
theorem dY:∀ {vs:LU}{ns:LI},IntsAre vs ns->aF (ns.map V.int) vs
 |_,_,.nil=>.nil
 |_,_,.cons n t h=>.cons ⟨t,rr⟩ (dY h)
noncomputable def eF (s:Stmt):Arguments:=match s with
 |.FunctionDef _ a _ _ _ _ _ _ _ _=>a
 |_=>{ posonlyargs:=[],args:=[],vararg:=none,kwonlyargs:=[],kw_defaults:=[],kwarg:=none,defaults:=[] }
noncomputable def bC (s:Stmt):List Stmt:=match s with
 |.FunctionDef _ _ b _ _ _ _ _ _ _=>b
 |_=>[]
noncomputable def a8 (s:Stmt):Scope:=match s with
 |.FunctionDef _ _ _ _ _ _ sc _ _ _=>sc
 |_=>{ kind:=.function,names:=[],isGenerator:=false,isCoroutine:=false }
abbrev xE:Lb:=λ_ _ _ _ _ _=>False
abbrev E0:XK:=λ_ _ _=>False
theorem TB:zX xE X E0:=λ_ _ _ _ _ _ _ h=>h.elim
structure RJ (K:Frag)(x qual:Str)(st:Stmt)(f:Addr)(fd:FuncData):Prop where
 ex:∃(oc:Value)(od:Option Addr)(kV doc pm:Value)(an:Option Addr)(cW ct:Value)(mM:Array (Option Value)),
  fd=fnOf x qual (eF st) (bC st) (a8 st) .none kV doc pm an cW ct/\K.lookup f=some ⟨oc,od,.func fd,mM⟩/\PySem.W.codeIn K cW qual=true
 kp:PySem.W.keepIn K (.ref f)=true
section
variable {P:Program}{w:World}{K:Frag}{mg:SV}{base:Heap}
theorem RJ.ok {x qual:Str}{st:Stmt}{f:Addr}{fd:FuncData}{N ps:LS}{k:Nat}{sp:Sp}(F:RJ K x qual st f fd)(S:FnScope N ps (a8 st))(len:∀vs H Q E,sp vs H Q E->vs.length=ps.length)
  (M:∀(cW:Value)(A:Around)(outer:List Env)(s:Shared)(H:Hp)(vs:List V)(Q:VK)(E:XK),cV k (A.deeper (envOfC qual (a8 st) s.z f cW))->sp vs H Q E ->
   ∃t,sU (oZ xE P w K mg base N qual (a8 st) f cW A outer s H E).nox (bC st) t/\t { nx:=λ_ H'=>Q .non H',rt:=Q } (kB N vs) H):mK P w K mg base xE (k+1) f fd ps sp:=by
 obtain⟨oc,od,kV,doc,pm,an,cW,ct,mM,rfl,a,O⟩:=F.ex;refine NN a O S len λA outer s H vs Q E hr U=>?_;obtain⟨t,h,q⟩:=M cW A outer s H vs Q E hr U;exact⟨t,h.nox,q⟩
theorem RJ.binds {x qual:Str}{st:Stmt}{f:Addr}{fd:FuncData}{ps:LS}(F:RJ K x qual st f fd)
  (h:∀(kV doc pm:Value)(an:Option Addr)(cW ct:Value)(us:LU),us.length=ps.length->bindArgs (fnOf x qual (eF st) (bC st) (a8 st) .none kV doc pm an cW ct) ⟨us,[]⟩=pure (ps.zip us)):oh K fd ps []:=by
 obtain⟨oc,od,kV,doc,pm,an,cW,ct,mM,rfl,O,M⟩:=F.ex;exact .all (h kV doc pm an cW ct)
theorem Pm {x qual:Str}{st:Stmt}{f:Addr}{oc:Value}{od an:Option Addr}{mM:Array (Option Value)}{kV doc pm cW ct:Value}(l:K.lookup f=some ⟨oc,od,.func (fnOf x qual (eF st) (bC st) (a8 st) .none kV doc pm an cW ct),mM⟩)
  (c:PySem.W.codeIn K cW qual=true) (k:PySem.W.keepIn K (.ref f)=true):RJ K x qual st f (fnOf x qual (eF st) (bC st) (a8 st) .none kV doc pm an cW ct):=⟨⟨oc,od,kV,doc,pm,an,cW,ct,mM,rr,l,c⟩,k⟩
end
def aD (H H':Hp):Prop:=∀b o,H b=some o->H' b=some o
theorem aD.refl (H:Hp):aD H H:=λ_ _ h=>h
theorem aD.trans (a:aD H M)(b:aD M H2):aD H H2:=λc o h=>b c o (a c o h)
theorem aD.free (e:aD H H')(h:H' l=Option.none):H l=Option.none:=by
 cases q:H l with
 |none=>rfl
 |some o=>
  rw[e l o q]at h;cases h
theorem aD.seq {K:Frag}{H H':Hp}{a:Addr}{xs:List V}(e:aD H H')(h:dW K H a xs):dW K H' a xs:=by
 rcases h with (h|⟨o,h⟩)|h
 .exact .inl (.inl (e _ _ h))
 .exact .inl (.inr ⟨o,e _ _ h⟩)
 .exact .inr h
section
variable {κ:Type}[DecidableEq κ]
noncomputable def jj (a7:List (κ×V))(k:κ):Option V:=(a7.find? λkv=>decide (kv.1=k)).map (·.2)
noncomputable def mP (a7:List (κ×V))(k:κ)(v:V):List (κ×V):=
 if(a7.any λkv=>decide (kv.1=k))=true then a7.map (λkv=>if kv.1=k then (kv.1,v)else kv)else a7++[(k,v)]
theorem lC {p:κ×V}{r:List (κ×V)}{k:κ}(e:p.1=k):jj (p::r) k=some p.2:=by simp[jj,e]
theorem lD {p:κ×V}{r:List (κ×V)}{k:κ}(e:¬p.1=k):jj (p::r) k=jj r k:=by simp[jj,e]
theorem xF (k:κ):∀a7:List (κ×V),(a7.any λkv=>decide (kv.1=k))=(jj a7 k).isSome
 |[]=>rr
 |p::r=>by
  rw[any_cons];by_cases e:p.1=k
  .simp_all[lC]
  .rw[lD e,ES e];exact xF k r
theorem jk (a7:List (κ×V))(k:κ)(v:V):(mP a7 k v).length<=a7.length+1:=by
 grind[mP]
theorem oW.isSome_eq (r:oW o u):o.isSome=u.isSome:=by
 cases o with
 |none=>cases u with
  |none=>rfl
  |some _=>exact(show False from r).elim
 |some _=>cases u with
  |none=>exact(show False from r).elim
  |some _=>rfl
theorem oW.getD (r:oW o u)(M:aG d d'):aG (o.getD d) (u.getD d'):=by
 cases o with
 |none=>cases u with
  |none=>exact M
  |some _=>exact(show False from r).elim
 |some _=>cases u with
  |none=>exact(show False from r).elim
  |some _=>exact r
theorem KV.val {a7:List (κ×V)}{vs:List (κ×Value)}(r:KV a7 vs)(k:κ):oW (jj a7 k) (valueAt vs k):=by
 induction r with
 |nil=>exact True.intro
 |@cons p q ps M h t O=>
  obtain⟨h1,h2⟩:=h;by_cases e:p.1=k
  .have b:valueAt (q::M) k=some q.2:=by simp_all[valueAt]
   rw[lC e,b];exact h2
  simp_all[valueAt,lD]
theorem KV.any (r:KV a7 vs)(k:κ):(a7.any λkv=>decide (kv.1=k))=vs.any λkv=>decide (kv.1=k):=by
 induction r with
 |nil=>rfl
 |cons h t M=>simp_all
theorem KV.repl (r:KV a7 vs)(k:κ)(O:aG y u):
  KV (a7.map λkv=>if kv.1=k then (kv.1,y)else kv) (vs.map λkv=>if kv.1=k then (kv.1,u)else kv):=by
 induction r with
 |nil=>exact .nil
 |@cons p q ps U h t M=>
  rw[uX];refine .cons ?_ M;split<;>simp_all
theorem KV.put (r:KV a7 vs)(k:κ)(M:aG y u):KV (mP a7 k y) (stored vs k u):=by
 unfold mP stored;rw[r.any k];by_cases e:(vs.any λkv=>decide (kv.1=k))=true
 .rw[if_pos e,if_pos e];exact r.repl k M
 .rw[if_neg e,if_neg e];exact Paired.snoc r ⟨rr,M⟩
theorem KV.length (r:KV a7 vs):a7.length=vs.length:=Paired.length r
end
theorem xG (r:aG (kV k) u):(cc P w).is k u=true:=by
 cases k with
 |inl i=>obtain⟨t,e⟩:=(show ∃t,u=Value.int i t from r);simp_all[xy]
 |inr x=>obtain⟨t,e⟩:=(show ∃t,u=Value.str x t from r);simp_all[xz]
theorem tm:∀ {ks:List di}{us:LU},aF (ks.map kV) us->ItemsAre (cc P w) ks us
 |[],_,r=>by cases r;exact .nil
 |k::ks,_,r=>by
  cases r with
  |cons h t=>exact .cons (xG h) (tm t)
abbrev KT (H:Hp):List (List di×V)->List (List di×Addr×Value)->Prop:=Paired λp q=>p.1=q.1/\H q.2.1=some (.tup (p.1.map kV))/\aG p.2 q.2.2
theorem KT.val {H:Hp}{a7:List (List di×V)}{xs:List (List di×Addr×Value)}(r:KT H a7 xs)(k:List di):oW (jj a7 k) ((atKey xs k).map (·.2)):=by
 induction r with
 |nil=>exact True.intro
 |@cons p q ps M h t U=>
  obtain⟨h1,_,h2⟩:=h;by_cases e:p.1=k
  .have O:=h1.symm.trans e;have b:atKey (q::M) k=some q.2:=by simp[atKey,O]
   rw[lC e,b];exact h2
  simp_all[atKey,lD]
theorem KT.repl (r:KT H a7 xs)(k:List di)(O:aG y u):
  KT H (a7.map λkv=>if kv.1=k then (kv.1,y)else kv) (xs.map (putAt k u)):=by
 induction r with
 |nil=>exact .nil
 |@cons p q ps U h t M=>
  refine .cons ?_ M;unfold putAt;split<;>simp_all
theorem KT.put (r:KT H a7 xs)(k:List di)(hb:H b=some (.tup (k.map kV)))(M:aG y u):
  KT H (mP a7 k y) (storedH xs k b u):=by
 have e:(a7.any λkv=>decide (kv.1=k))=(atKey xs k).isSome:=by
  rw[xF,(r.val k).isSome_eq,Option.isSome_map]
 unfold mP storedH;rw[e];by_cases q:(atKey xs k).isSome=true
 .rw[if_pos q,if_pos q];exact r.repl k M
 .rw[if_neg q,if_neg q];exact Paired.snoc r ⟨rr,hb,M⟩
theorem KT.keeps (r:KT H a7 xs)(M:∀b ys,H b=some (.tup ys)->H' b=some (.tup ys)):KT H' a7 xs:=
 Paired.mapP r λ_ _ z=>⟨z.1,M _ _ z.2.1,z.2.2⟩
section
variable {P:Program}{w:World}{H:Hp}{h:Heap}{a:Addr}
theorem NO (ok:kq P w H h)(e:Rd H a u):bc P w H h a u:=e.ok ok
theorem Ad (ok:kq P w H h)(e:H a=some (.dK a7 ob)):h.get? a=some ob:=And.left (show bc P w H h a _ from ok a _ e)
theorem Bw (ok:kq P w H h)(e:Rd H a (.dK a7 ob)):a7.length<=sizeLine/\(a == sysModules)=false/\∃vs,KV a7 vs/\h.DictOf (cc P w) a vs:=
 And.right (show bc P w H h a _ from NO ok e)
theorem pN (ok:kq P w H h)(e:H a=some (.dK a7 ob)):a7.length<=sizeLine/\(a == sysModules)=false/\∃vs,KV a7 vs/\h.DictOf (cc P w) a vs:=Bw ok (.inl e)
theorem uN (ok:kq P w H h)(e:H a=some (.tup (ks.map kV))):(tupleKind (cc P w)).is h ks a:=by
 obtain⟨_,its,r,o,h1,h2,n,h3⟩:=(show bc P w H h a _ from ok a _ e);exact⟨o,its.toArray,n,h1,h2,h3,by simpa using tm r⟩
theorem By (ok:kq P w H h)(e:Rd H a (.dT a7)):a7.length<=sizeLine/\(a == sysModules)=false /\
  ∃xs,KT H a7 xs/\h.DictOfH (tupleKind (cc P w)) a xs:=by
 obtain⟨z,y,xs,r,o,es,M,h1,h2,h3,h4,h5⟩:=(show bc P w H h a _ from NO ok e);refine⟨z,y,xs,r,o,es,M,h1,h2,h3,h4,λx hx=>?_,h5⟩;have all:∀ {l:List _}{m:List _},KT H l m->∀x∈m,(tupleKind (cc P w)).is h x.1 x.2.1:=by
  intro l m q;induction q with
  |nil=>intro x hx;exact nomatch hx
  |@cons p q ps O hq t U=>
   grind[uN]
 exact all r x hx
theorem TC (ok:kq P w H h)(e:H a=some (.dT a7)):a7.length<=sizeLine/\(a == sysModules)=false /\
  ∃xs,KT H a7 xs/\h.DictOfH (tupleKind (cc P w)) a xs:=By ok (.inl e)
end
def DC (H:Hp)(a:Addr)(y:V)(r:Option V):Prop:=
 (∃a7 k ob,Rd H a (.dK a7 ob)/\y=kV k/\r=jj a7 k)\/∃a7 k b,Rd H a (.dT a7)/\y=.ref b/\H b=some (.tup (k.map kV))/\r=jj a7 k
def TD (H:Hp)(a:Addr)(y v:V)(Q:Hp->Prop):Prop:=
 (∃a7 k ob,H a=some (.dK a7 ob)/\y=kV k/\a7.length<sizeLine/\∀M,Q (upd H a (.dK (mP a7 k v) M))) \/
 ∃a7 k b,H a=some (.dT a7)/\y=.ref b/\H b=some (.tup (k.map kV))/\a7.length<sizeLine/\Q (upd H a (.dT (mP a7 k v)))
section
variable {X:Cx}{af:AO}{σ:St}{H:Hp}{s:Shared}{a:Addr}{y v:V}{u r:Value}{o:Option V}{A:Around}{E:QV}
theorem Inv.big (I:Inv X af σ H s):sysModules<s.z:=by
 have h:=(I.mod.glob.keeps I.bk).lt;exact Nat.lt_trans Z9 h
theorem Xi (hu:A.units+1<cLine)(I:Inv X af σ H s)(g:DC H a y o)(U:aG y u)(h:∀s',Inv X af σ H s'->Q (.bool o.isSome) s'):
  wpAny (model X.prog X.w) A (compareOp .In u (.ref a)) Q E s:=by
 rcases g with⟨a7,k,ob,e,O,l⟩|⟨a7,k,b,e,O,c,l⟩
 .subst O;obtain⟨z,hd,vs,M,dd⟩:=Bw I.hok e;refine wpAny_in_of (xG U) hd dd.mapOf ?_;rw[<-(M.val k).isSome_eq,<-l];exact h _ (I.tok _)
 .subst O;cases (show u=Value.ref b from U)
  obtain⟨z,hd,xs,M,dd⟩:=By I.hok e;refine wpAny_in_heap (tupleKind_room_in1 hu) (uN I.hok c) hd dd ?_;have q:=(M.val k).isSome_eq;rw[Option.isSome_map]at q;rw[<-q,<-l];exact h _ (I.tok _)
theorem vc (I:Inv X af σ H s)(M:SR (H a))(hs:Heap.SameBut a s.heap h')(he:∃q,h'.get? a=some q)(new:bc X.prog X.w (upd H a ob) h' a ob):
  Inv X af σ (upd H a ob) { s with heap:=h',toks:=t' } :=
 I.write M (.inl rr) (λb q hb z=>(hs.2 b hb).trans z) he new
theorem F7 (z:a7.length<=sizeLine)(hd:(a == sysModules)=false)(M:KV a7 vs)(dd:h'.DictOf (cc P w) a vs)(O:h'.get? a=some ob):
  bc P w H' h' a (.dK a7 ob):=⟨O,z,hd,vs,M,dd⟩
theorem DD (hu:A.units+1<cLine)(I:Inv X af σ H s)(g:TD H a y v R)(f:aG y u)(i:aG v r)(h:∀H' s',R H'->Inv X af σ H' s'->Q () s'):
  wpAny (model X.prog X.w) A (setItem (.ref a) u r) Q E s:=by
 rcases g with⟨a7,k,ob,e,U,l,d⟩|⟨a7,k,b,e,U,j,l,d⟩
 .subst U;obtain⟨z,hd,vs,M,dd⟩:=pN I.hok e;have hz:vs.length<=sizeLine:=by rw[<-M.length];exact z
  have hl:(mP a7 k v).length<=sizeLine:=by have:=jk a7 k v;lia
  refine wpAny_setItem_pairs (hsz:=hz) (xG f) dd λh' O hs=>?_;obtain⟨q,hq⟩:∃q,h'.get? a=some q:=let ⟨q,_,_,hq,_⟩:=O;⟨q,hq⟩;exact h _ _ (d q) (vc I (by rw[e];exact True.intro) hs ⟨q,hq⟩ (F7 hl hd (M.put k i) O hq))
 .subst U;cases (show u=Value.ref b from f)
  obtain⟨z,hd,xs,M,dd⟩:=TC I.hok e;have hz:xs.length<=sizeLine:=by rw[<-Paired.length M];exact z
  have hl:(mP a7 k v).length<=sizeLine:=by have:=jk a7 k v;lia
  refine wpAny_setItem_heap (hsz:=hz) (tupleKind_room_in1 hu) (uN I.hok j) dd λh' O hs=>h _ _ d ?_;obtain⟨q,es,n,hq,h2,h3,h4,_,h5⟩:=O;refine vc I (by rw[e];exact True.intro) hs ⟨q,hq⟩ ⟨hl,hd,_,(M.put k j i).keeps λc ys m=>?_,q,es,n,hq,h2,h3,h4,h5⟩;rw[a6 (SQ m e (λz=>nomatch z))];exact m
end
def Xj (ty M:TE):TE:=λσ H Q=>ty σ H λy O=>M σ O λx H2=>∃a o,x=.ref a/\DC H2 a y o/\Q (.bl o.isSome) H2
def Bz (M ty O:TE):TS:=λD σ H=>O σ H λv U=>M σ U λx H2=>ty σ H2 λy b=>∃a,x=.ref a/\TD b a y v (D.nx σ)
section
variable {X:Cx}{o i e value:Expr}{pos Kx RI:Pos}{td ty tv:TE}
theorem Pn (hu:X.A.units+1<cLine)(hi:PE X i ty)(ho:PE X o td):PC X .In i o (Xj ty td):=by
 intro af s σ H Q I h;refine bJ (hi _ s σ H _ I h) λiv s1 ⟨y,M,O,U,b⟩=>bJ (ho _ s1 σ M _ O b) λu s2 ⟨x,H2,c,d,a,j,ex,g,q2⟩=>?_;subst ex;obtain rfl:u=Value.ref a:=d;exact Xi hu c g U λk f=>⟨.bl _,H2,f,rr,q2⟩
theorem ve (hu:X.A.units+1<cLine)(ho:PE X o td)(hi:PE X i ty)(hv:PE X value tv)(hs:swapsWith value (some (.Subscript o i Kx)) pos.line X.env=pure false):
  PS X (.Assign [.Subscript o i Kx] value pos) (Bz td ty tv):=by
 intro af s σ H D I h;refine wpAny_Assign_Subscript (bJ (hv _ s σ H _ I h) λr s1 ⟨v,M,O,U,b⟩=>bJ (ho _ s1 σ M _ O b) λu s2 ⟨x,H2,c,d,q2⟩=>bJ (hi _ s2 σ H2 _ c q2) λiv n ⟨y,p,f,j,a,ex,g⟩=>?_) hs;subst ex;obtain rfl:u=Value.ref a:=d;exact DD hu f g j U λk q l m=>⟨σ,k,m,l⟩
end
theorem xH (h:Heap)(hb:sysModules<h.objs.size):bc P w H (h.push { cls:=.type "dict",data:=.dict #[] }) h.objs.size (.dK [] { cls:=.type "dict",data:=.dict #[] }):=
 ⟨vY _ rr,uM _,beq_eq_false_iff_ne.mpr (Ne.symm (vS hb)),[],.nil,Heap.DictOf.new h⟩
theorem F8 (h:Heap)(hb:sysModules<h.objs.size):bc P w H (h.push { cls:=.type "dict",data:=.dict #[] }) h.objs.size (.dT []):=
 ⟨uM _,beq_eq_false_iff_ne.mpr (Ne.symm (vS hb)),[],.nil,_,#[],0,vY _ rr,⟨rr,rr,rr⟩,rr,rr,nodup_nil⟩
def F9:TE:=λ_ H Q=>∀p ob,H p=none->Q (.ref p) (upd H p (.dK [] ob))
def FC:TE:=λ_ H Q=>∀p,H p=none->Q (.ref p) (upd H p (.dT []))
section
variable {X:Cx}{pos:Pos}
theorem FD:PE X (.Dict [] [] pos) F9:=λaf s σ H Q I h=>
 wpAny_Dict_empty ⟨.ref _,_,I.laid (λ_ _ q=>vZ _ q) (vT _) (xH _ I.big),rr,h _ _ (I.hok.fresh (vT _))⟩
theorem FF:PE X (.Dict [] [] pos) FC:=λaf s σ H Q I h=>
 wpAny_Dict_empty ⟨.ref _,_,I.laid (λ_ _ q=>vZ _ q) (vT _) (F8 _ I.big),rr,h _ (I.hok.fresh (vT _))⟩
end
structure M1 (X:Cx)(o:Expr)(m:Str)(bQ:Pos)(e:Expr)(bq:Pos):Prop where
 base:attributeBase o m X.env (eval o X.env)=eval o X.env
 few:((backTo bq (starEach [e] X.env)).all (λx=>!x.1) && (backToKw bq (keywordEach [] X.env)).all (λx=>x.1.isSome)
  && decide (([e]:List Expr).length+([]:List Keyword).length+(if([]:List Keyword).isEmpty then 0 else 1)<30))=true
 line:(bQ.endLine == bq.line)=true
 trees:backTo bq (starEach [e] X.env)=[(false,eval e X.env)]
def Zi (H:Hp)(a:Addr):Prop:=(∃a7 ob,Rd H a (.dK a7 ob))\/∃a7,Rd H a (.dT a7)
theorem Po (I:Inv X af σ H s)(d:Zi H a):
  s.TypeIs (.ref a) "dict"/\(∀b,Value.ref a=.ref b->∃ob,s.heap.get? b=some ob/\ob.dict=none)/\(a == sysModules)=false:=by
 rcases d with⟨a7,M,e⟩|⟨a7,e⟩
 .obtain⟨_,hd,vs,_,dd⟩:=Bw I.hok e;refine⟨dd.typeIs,λb q=>?_,hd⟩;cases q
  obtain⟨ob,_,_,h1,h2,_⟩:=dd;exact⟨ob,h1,h2.2.1⟩
 .obtain⟨_,hd,xs,_,dd⟩:=By I.hok e;refine⟨dd.typeIs,λb q=>?_,hd⟩;cases q
  obtain⟨ob,_,_,h1,h2,_⟩:=dd;exact⟨ob,h1,h2.2.1⟩
section
variable {X:Cx}{af:AO}{σ:St}{H:Hp}{s:Shared}{a:Addr}{y d:V}{u r:Value}{o:Option V}{A:Around}{E:QV}
theorem Pp (hu:A.units+1<cLine)(I:Inv X af σ H s)(g:DC H a y o)(U:aG y u)(h:∀c s',Inv X af σ H s'->aG (o.getD .non) c->Q c s'):
  wpAny (model X.prog X.w) A (call (.builtin "dict.get") [.ref a,u]) Q E s:=by
 rcases g with⟨a7,k,ob,e,O,l⟩|⟨a7,k,b,e,O,f,l⟩
 .subst O;obtain⟨z,hd,vs,M,dd⟩:=Bw I.hok e;refine call_meetsIn slot_dict_get dd.typeIs entry_dict_get (PySem.F.args_dict_get_2 _ _) (meets_dict_get _ a (xG U) hd) ⟨_,dd.mapOf,h _ _ (I.tok _) ?_⟩;rw[l];exact(M.val k).getD rr
 .subst O;cases (show u=Value.ref b from U)
  obtain⟨z,hd,xs,M,dd⟩:=By I.hok e;refine call_meetsIn slot_dict_get dd.typeIs entry_dict_get (PySem.F.args_dict_get_2 _ _) (meetsH_dict_get _ a b hd) ⟨tupleKind_room_in1 hu,k,xs,uN I.hok f,dd,h _ _ (I.tok _) ?_⟩;rw[l];exact(M.val k).getD rr
end
def Pq (O ty:TE):TE:=λσ H Q=>O σ H λx M=>∃a,x=.ref a/\Zi M a/\ty σ M λy H2=>∃o,DC H2 a y o/\Q (o.getD .non) H2
section
variable {X:Cx}{o e f:Expr}{bQ bq:Pos}{td ty tx:TE}
theorem xI (hu:X.A.units+1<cLine)(ho:PE X o td)(he:PE X e ty)(m:M1 X o "get" bQ e bq):PE X (.Call (.Attribute o "get" bQ) [e] [] bq) (Pq td ty):=by
 intro af s σ H Q I h;refine wpAny_Call_method m.base m.few m.line plainAttrs_dict slot_dict_get PySem.F.type_dict_get (bJ (ho _ s σ H _ I h) λu s1 ⟨x,U,O,b,a,ex,d,c⟩=>?_);subst ex;obtain rfl:u=Value.ref a:=b;obtain⟨i,j,_⟩:=Po O d;refine⟨i,j,?_⟩;rw[m.trees];refine Calls.callWith_builtin rr (Calls.evalArgs_plain (Calls.spliced_cons (bJ (he _ s1 σ U _ O c) λiv s2 ⟨y,H2,k,l,p,g,q2⟩=>Calls.spliced_nil ?_)));exact Pp hu k g l λq r n M=>⟨_,H2,n,M,q2⟩
end
end L2
namespace DL
open PySem L2
abbrev St:=L2.St
set_option genInjectivity true in
inductive D where
 |non|bl (b:Bool)|int (i:Int)|str (x:Str)|ty (n:String)|tup (ds:List D)|lst (ds:List D)
  |dk (ks:List di) (vs:List D)|dt (ks:List (List di)) (vs:List D)
abbrev LD:=List D
abbrev LV:=List V
abbrev LK:=List di
abbrev OB:=Option (D×Bool)
mutual
inductive Is (K:Frag)(H:Hp):V->D->Prop where
 |non:Is K H .non .non
 |bl (b:Bool):Is K H (.bl b) (.bl b)
 |int (i:Int):Is K H (.int i) (.int i)
 |str (x:Str):Is K H (.str x) (.str x)
 |ty (n:String):Is K H (.ty n) (.ty n)
 |tup {a:Addr}{vs:List V}{ds:List D}(h:fL K H a vs) (hs:IsL K H vs ds):Is K H (.ref a) (.tup ds)
 |lst {a:Addr}{vs:List V}{ds:List D}(h:dW K H a vs) (hs:IsL K H vs ds):Is K H (.ref a) (.lst ds)
 |dk {a:Addr}{ks:List di}{vs:List V}{ds:List D}{ob:Obj}(h:H a=some (.dK (ks.zip vs) ob)) (hl:ks.length=vs.length) (hs:IsL K H vs ds):Is K H (.ref a) (.dk ks ds)
 |dt {a:Addr}{ks:List (List di)}{vs:List V}{ds:List D}(h:H a=some (.dT (ks.zip vs))) (hl:ks.length=vs.length) (hs:IsL K H vs ds):Is K H (.ref a) (.dt ks ds)
inductive IsL (K:Frag)(H:Hp):List V->List D->Prop where
 |nil:IsL K H [] []
 |cons {v:V}{d:D}{vs:List V}{ds:List D}(h:Is K H v d) (hs:IsL K H vs ds):IsL K H (v::vs) (d::ds)
end
mutual
noncomputable def aI:D->Bool
 |.lst _=>false
 |.dk _ _=>false
 |.dt _ _=>false
 |.tup ds=>aQ ds
 |_=>true
noncomputable def aQ:LD->Bool
 |[]=>true
 |d::ds=>aI d && aQ ds
end
@[simp] theorem Si:aI .non=true:=by simp only[aI]
@[simp] theorem TF (b:Bool):aI (.bl b)=true:=by simp only[aI]
@[simp] theorem Sj (i:Int):aI (.int i)=true:=by simp only[aI]
@[simp] theorem Sk (x:Str):aI (.str x)=true:=by simp only[aI]
@[simp] theorem TH (x:String):aI (.ty x)=true:=by simp only[aI]
@[simp] theorem tq (ds:LD):aI (.tup ds)=aQ ds:=by rw[aI]
@[simp] theorem Sl (ds:LD):aI (.lst ds)=false:=by rw[aI]
@[simp] theorem TJ (ks:LK)(ds:LD):aI (.dk ks ds)=false:=by rw[aI]
@[simp] theorem TK (ks:List LK)(ds:LD):aI (.dt ks ds)=false:=by rw[aI]
@[simp] theorem Pr:aQ []=true:=by rw[aQ]
@[simp] theorem NP (d:D)(ds:LD):aQ (d::ds)=(aI d && aQ ds):=by rw[aQ]
section
variable {K:Frag}{H H':Hp}
mutual
theorem Is.keep (M:∀a vs,fL K H a vs->fL K H' a vs)(O:∀a vs,dW K H a vs->dW K H' a vs)(U:∀a a7 ob,H a=some (.dK a7 ob)->H' a=some (.dK a7 ob))(c:∀a a7,H a=some (.dT a7)->H' a=some (.dT a7)):∀ {v:V}{d:D},Is K H v d->Is K H' v d
 |_,_,.non=>.non
 |_,_,.bl b=>.bl b
 |_,_,.int i=>.int i
 |_,_,.str x=>.str x
 |_,_,.ty x=>.ty x
 |_,_,.tup h hs=>.tup (M _ _ h) (IsL.keep M O U c hs)
 |_,_,.lst h hs=>.lst (O _ _ h) (IsL.keep M O U c hs)
 |_,_,.dk h hl hs=>.dk (U _ _ _ h) hl (IsL.keep M O U c hs)
 |_,_,.dt h hl hs=>.dt (c _ _ h) hl (IsL.keep M O U c hs)
theorem IsL.keep (M:∀a vs,fL K H a vs->fL K H' a vs)(O:∀a vs,dW K H a vs->dW K H' a vs)(U:∀a a7 ob,H a=some (.dK a7 ob)->H' a=some (.dK a7 ob))(b:∀a a7,H a=some (.dT a7)->H' a=some (.dT a7)):∀ {vs:LV}{ds:LD},IsL K H vs ds->IsL K H' vs ds
 |_,_,.nil=>.nil
 |_,_,.cons h hs=>.cons (Is.keep M O U b h) (IsL.keep M O U b hs)
end
mutual
theorem Is.keepT (M:∀a vs,fL K H a vs->fL K H' a vs):∀ {v:V}{d:D},Is K H v d->aI d=true->Is K H' v d
 |_,_,.non,_=>.non
 |_,_,.bl b,_=>.bl b
 |_,_,.int i,_=>.int i
 |_,_,.str x,_=>.str x
 |_,_,.ty x,_=>.ty x
 |_,_,.tup h hs,n=>.tup (M _ _ h) (IsL.keepT M hs (by simpa using n))
 |_,_,.lst h hs,n=>by simp at n
 |_,_,.dk h hl hs,n=>by simp at n
 |_,_,.dt h hl hs,n=>by simp at n
theorem IsL.keepT (M:∀a vs,fL K H a vs->fL K H' a vs):∀ {vs:LV}{ds:LD},IsL K H vs ds->aQ ds=true->IsL K H' vs ds
 |_,_,.nil,_=>.nil
 |_,_,.cons h hs,n=>by
  simp at n;exact .cons (Is.keepT M h n.1) (IsL.keepT M hs n.2)
end
theorem aK (e:aD H H')(h:fL K H a xs):fL K H' a xs:=by
 rcases h with (h|⟨o,h⟩)|h
 .exact .inl (.inl (e _ _ h))
 .exact .inl (.inr ⟨o,e _ _ h⟩)
 .exact .inr h
theorem Is.mono (h:Is K H v d)(e:aD H H'):Is K H' v d:=h.keep (λ_ _=>aK e) (λ_ _=>e.seq) (λ_ _ _ q=>e _ _ q) λ_ _ q=>e _ _ q
theorem IsL.mono (h:IsL K H v d)(e:aD H H'):IsL K H' v d:=h.keep (λ_ _=>aK e) (λ_ _=>e.seq) (λ_ _ _ q=>e _ _ q) λ_ _ q=>e _ _ q
theorem IsL.length:∀ {vs:LV}{ds:LD},IsL K H vs ds->vs.length=ds.length
 |_,_,.nil=>rr
 |_,_,.cons _ t=>congrArg _ t.length
theorem IsL.get:∀ {vs:LV}{ds:LD}{i:Nat}{d:D},IsL K H vs ds->ds[i]? = some d->∃v,vs[i]? = some v/\Is K H v d
 |_,_,_,_,.nil,e=>by simp at e
 |_,_,0,_,.cons h _,e=>by simp_all
 |_,_,i+1,d,.cons _ t,e=>by
  obtain⟨u,h1,h2⟩:=t.get (by simpa using e);simp_all
theorem IsL.append:∀ {vs M:LV}{ds es:LD},IsL K H vs ds->IsL K H M es->IsL K H (vs++M) (ds++es)
 |_,_,_,_,.nil,s=>s
 |_,_,_,_,.cons r t,s=>.cons r (t.append s)
theorem IsL.take:∀ {vs:LV}{ds:LD}(n:Nat),IsL K H vs ds->IsL K H (vs.take n) (ds.take n)
 |_,_,0,_=>by simpa using IsL.nil
 |_,_,_+1,.nil=>.nil
 |_,_,n+1,.cons r t=>.cons r (t.take n)
theorem IsL.drop:∀ {vs:LV}{ds:LD}(n:Nat),IsL K H vs ds->IsL K H (vs.drop n) (ds.drop n)
 |_,_,0,r=>r
 |_,_,_+1,.nil=>.nil
 |_,_,n+1,.cons _ t=>t.drop n
theorem IsL.set (h:Is K H v d):∀ {vs:LV}{ds:LD}(i:Nat),IsL K H vs ds->IsL K H (vs.set i v) (ds.set i d)
 |_,_,_,.nil=>.nil
 |_,_,0,.cons _ t=>.cons h t
 |_,_,i+1,.cons r t=>.cons r (IsL.set h i t)
theorem IsL.flat {vs:LV}{ns:LI}(h:vs=ns.map V.int):IsL K H vs (ns.map D.int):=by
 subst h;induction ns with
 |nil=>exact .nil
 |cons n ns M=>exact .cons (.int n) M
end
structure Ext (B N H H':Hp):Prop where
 hh:aD H H'
 bn:aD B N
 nh:aD N H'
 new:∀a o,N a=some o->B a=some o\/H a=none
theorem Ext.refl (h:aD B H):Ext B B H H:=⟨.refl _,.refl _,h,λ_ _ e=>.inl e⟩
theorem Ext.trans (x:Ext B N H M)(y:Ext N N2 M H2):Ext B N2 H H2:=
 ⟨x.hh.trans y.hh,x.bn.trans y.bn,y.nh,λa o e=>(y.new a o e).elim (λq=>x.new a o q) λq=>.inr (x.hh.free q)⟩
theorem Ext.laid (h:aD B H)(hp:H p=none):Ext B (upd B p o) H (upd H p o):=by
 have M:=h.free hp;refine⟨λa u e=>?_,λa u e=>?_,λa u e=>?_,λa u e=>?_⟩
 .grind[a6]
 .grind[a6]
 .by_cases q:a=p
  .simp_all[aq]
  .rw[a6 q]at e |-;exact h _ _ e
 grind[a6]
theorem Ext.grow (h:aD B H)(hh:aD H H'):Ext B B H H':=⟨hh,.refl _,h.trans hh,λ_ _ e=>.inl e⟩
abbrev Env:=List OB
abbrev FE:=Env->OB
abbrev FA:=Env->Option LD
abbrev FT:=Env->Option Bool
def Sn (K:Frag)(H N:Hp)(v:V):D->Prop
 |.tup ds=>∃(a:Addr)(vs:LV),v=.ref a/\fL K N a vs/\IsL K N vs ds/\∀(i:Nat)(es:LD),ds[i]? = some (.lst es)->∃(b:Addr)(us:LV),vs[i]? = some (.ref b)/\H b=none/\N b=some (.lst us)/\IsL K N us es
 |d=>∃(a:Addr)(vs:LV)(ds:LD),v=.ref a/\d=.lst ds/\H a=none/\N a=some (.lst vs)/\IsL K N vs ds
theorem Sn.back (h:Sn K H' N v d)(e:aD H H'):Sn K H N v d:=by
 cases d
 case tup=>exact let ⟨a,vs,q,y,z,r⟩:=h;⟨a,vs,q,y,z,λi es g=>let ⟨b,us,g1,M,O⟩:=r i es g;⟨b,us,g1,e.free M,O⟩⟩
 all_goals exact let ⟨a,vs,ds,q,y,z,r⟩:=h;⟨a,vs,ds,q,y,e.free z,r⟩
noncomputable def jl:LS:=["in_order","has_seal","is_first_death","bases_by","as_heard"]
noncomputable def sy (x:Str):Str:=x ++ ".<locals>." ++ "<lambda>"
def Tb (K:Frag)(B:Hp):Prop:=∀x∈jl,∀c P,PySem.W.tabIn K x=some (c,P)->B P=some (.tbl (sy x))
theorem Tb.mono (h:Tb K B)(e:aD B M):Tb K M:=λx hx c P q=>e _ _ (h x hx c P q)
structure dR (K:Frag)(B:Hp)(σ:St)(ρ:Env):Prop where
 tb:Tb K B
 at':∀(i:Nat)(d:D)(b:Bool),ρ[i]? = some (some (d,b))->∃v,σ[i]? = some (some v)/\Is K B v d
theorem dR.mono (h:dR K B σ ρ)(e:aD B M):dR K M σ ρ:=⟨h.tb.mono e,λi d b q=>let ⟨v,h1,h2⟩:=h.at' i d b q;⟨v,h1,h2.mono e⟩⟩
def Fin (K:Frag)(B H:Hp)(d:D)(b:Bool)(Q:VK):Prop:=∀(v:V)(H' N:Hp),Ext B N H H'->Is K N v d->(b=true->Sn K H N v d)->Q v H'
def tD (K:Frag)(f:FE):TE:=λσ H Q=>∃(B:Hp)(ρ:Env)(d:D)(b:Bool),aD B H/\dR K B σ ρ/\f ρ=some (d,b)/\Fin K B H d b Q
def B1 (K:Frag)(f:FT):TT:=λσ H Q=>∃(B:Hp)(ρ:Env)(c:Bool),aD B H/\dR K B σ ρ/\f ρ=some c/\∀H',aD H H'->Q c H'
def So (K:Frag)(f:FA):TA:=λσ H Q=>∃(B:Hp)(ρ:Env)(ds:LD),aD B H/\dR K B σ ρ/\f ρ=some ds/\∀(vs:LV)(H' N:Hp),Ext B N H H'->IsL K N vs ds->Q vs H'
def rD (K:Frag)(op:D->D->OB):R2:=λx y H Q=>∃(B:Hp)(dx dy d:D)(b:Bool),aD B H/\Is K B x dx/\Is K B y dy/\op dx dy=some (d,b)/\Fin K B H d b Q
def Xk (K:Frag)(op:D->OB):V->Hp->VK->Prop:=λx H Q=>∃(B:Hp)(dx d:D)(b:Bool),aD B H/\Is K B x dx/\op dx=some (d,b)/\Fin K B H d b Q
def Ae (K:Frag)(op:LD->OB):LV->Hp->VK->Prop:=λxs H Q=>∃(B:Hp)(ds:LD)(d:D)(b:Bool),aD B H/\IsL K B xs ds/\op ds=some (d,b)/\Fin K B H d b Q
theorem Fin.one (h:Fin K B H d false Q)(s:aD B H)(i:Is K B v d):Q v H:=h v H B (.refl s) i V9
theorem Fin.into (h:Fin K B H d b Q)(x:Ext B N H O):Fin K N O d b Q:=λv H' N' y i M=>h v H' N' (x.trans y) i λe=>(M e).back x.hh
@[simp] noncomputable def fC (d:D):FE:=λ_=>some (d,false)
@[simp] noncomputable def am (i:Nat):FE:=λρ=>match ρ[i]? with|some (some (d,_))=>some (d,false)|_=>none
@[simp] noncomputable def f2 (op:D->D->OB)(fa M:FE):FE:=λρ=>(fa ρ).bind λx=>(M ρ).bind λy=>op x.1 y.1
@[simp] noncomputable def f1 (op:D->OB)(fa:FE):FE:=λρ=>(fa ρ).bind λx=>op x.1
@[simp] noncomputable def av:FA:=λ_=>some []
@[simp] noncomputable def ao (fa:FE)(M:FA):FA:=λρ=>(fa ρ).bind λx=>(M ρ).bind λxs=>some (x.1::xs)
@[simp] noncomputable def fA (op:LD->OB)(fa:FA):FE:=λρ=>(fa ρ).bind op
theorem Ps (h:tD K (am i) σ H Q):∃v,σ[i]? = some (some v)/\Q v H:=by
 obtain⟨B,ρ,d,b,s,r,e,q⟩:=h;unfold am at e;split at e
 .rename_i d' b' M;cases e
  obtain⟨v,h1,h2⟩:=r.at' i _ _ M;exact⟨v,h1,q.one s h2⟩
 simp_all
theorem Lp (h:tD K (f2 op fa fb) σ H Q):tD K fa σ H λx U=>tD K fb σ U λy H2=>rD K op x y H2 Q:=by
 obtain⟨B,ρ,d,b,s,r,e,q⟩:=h;obtain⟨x,ex,e⟩:=oX e;obtain⟨y,a,e⟩:=oX e;refine⟨B,ρ,x.1,x.2,s,r,ex,λv U N M i1 _=>⟨N,ρ,y.1,y.2,M.nh,r.mono M.bn,a,λc H2 N2 O i2 _=>⟨N2,x.1,y.1,d,b,O.nh,i1.mono O.bn,i2,e,?_⟩⟩⟩;exact q.into (M.trans O)
theorem Xl (h:tD K (f1 op fa) σ H Q):tD K fa σ H λx M=>Xk K op x M Q:=by
 obtain⟨B,ρ,d,b,s,r,e,q⟩:=h;obtain⟨x,ex,e⟩:=oX e;exact⟨B,ρ,x.1,x.2,s,r,ex,λv M N O i1 _=>⟨N,x.1,d,b,O.nh,i1,e,q.into O⟩⟩
theorem Lq (h:tD K (fA op fa) σ H Q):So K fa σ H λxs M=>Ae K op xs M Q:=by
 obtain⟨B,ρ,d,b,s,r,e,q⟩:=h;obtain⟨x,ex,e⟩:=oX e;exact⟨B,ρ,x,s,r,ex,λv M N O i1=>⟨N,x,d,b,O.nh,i1,e,q.into O⟩⟩
theorem Lr (h:So K av σ H Q):Q [] H:=by
 obtain⟨B,ρ,ds,s,r,e,q⟩:=h;cases e
 exact q [] H B (.refl s) .nil
theorem FH (h:So K (ao fa fr) σ H Q):tD K fa σ H λx O=>So K fr σ O λxs H2=>Q (x::xs) H2:=by
 obtain⟨B,ρ,ds,s,r,e,q⟩:=h;obtain⟨x,ex,e⟩:=oX e;obtain⟨y,a,e⟩:=oX e;cases e
 exact⟨B,ρ,x.1,x.2,s,r,ex,λv O N M i1 _=>⟨N,ρ,y,M.nh,r.mono M.bn,a,λvs H2 N2 U i2=>q _ H2 N2 (M.trans U) (.cons (i1.mono U.bn) i2)⟩⟩
@[simp] noncomputable def bD (f:FE):FT:=λρ=>match f ρ with|some (.bl c,_)=>some c|_=>none
@[simp] noncomputable def ft (f g:FT):FT:=λρ=>match f ρ with|some true=>g ρ|some false=>some false|none=>none
@[simp] noncomputable def iD (f g:FT):FT:=λρ=>match f ρ with|some true=>some true|some false=>g ρ|none=>none
@[simp] noncomputable def jm (f:FT):FT:=λρ=>(f ρ).map (!·)
open Classical in
noncomputable def cR (H:Hp)(P:Addr->Prop):Hp:=λa=>if P a then none else H a
theorem bU (h:¬P a):cR H P a=H a:=by unfold cR;rw[if_neg h]
theorem Af (h:P a):cR H P a=none:=by unfold cR;rw[if_pos h]
theorem jn (h:cR H P a=some o):¬P a/\H a=some o:=by
 grind[Af,bU]
theorem br:aD (cR H P) H:=λ_ _ e=>(jn e).2
theorem cY (e:∀a o,H a=some o->¬P a->H' a=some o/\¬M a):aD (cR H P) (cR H' M):=λa o q=>by
 grind[jn,bU]
noncomputable def join (N N':Hp):Hp:=λa=>match N a with|some o=>some o|none=>N' a
theorem cS:aD N (join N N'):=λa o e=>by unfold join;rw[e]
theorem cO (e:N a=none):join N N' a=N' a:=by unfold join;rw[e]
def own (σ:St)(ρ:Env)(a:Addr):Prop:=∃(i:Nat)(d:D),ρ[i]? = some (some (d,true))/\σ[i]? = some (some (V.ref a))
inductive Bx (K:Frag)(C:Hp):HO->D->Prop where
 |lst {vs:List V}{ds:List D}(h:IsL K C vs ds):Bx K C (.lst vs) (.lst ds)
 |dk {ks:List di}{vs:List V}{ds:List D}(hl:ks.length=vs.length) (h:IsL K C vs ds) {ob:Obj}:Bx K C (.dK (ks.zip vs) ob) (.dk ks ds)
 |dt {ks:List (List di)}{vs:List V}{ds:List D}(hl:ks.length=vs.length) (h:IsL K C vs ds):Bx K C (.dT (ks.zip vs)) (.dt ks ds)
theorem Bx.mono (h:Bx K C o d)(e:aD C M):Bx K M o d:=by
 cases h with
 |lst h=>exact .lst (h.mono e)
 |dk hl h=>exact .dk hl (h.mono e)
 |dt hl h=>exact .dt hl (h.mono e)
theorem Bx.is (h:Bx K C o d)(e:C a=some o):Is K C (.ref a) d:=by
 cases h with
 |lst h=>exact .lst (dW.of e) h
 |dk hl h=>exact .dk e hl h
 |dt hl h=>exact .dt e hl h
structure cH (K:Frag)(B0 H0 N H:Hp)(σ:St)(ρ:Env):Prop where
 bh:aD B0 H0
 tb:Tb K B0
 ext:Ext B0 N H0 H
 len:ρ.length=σ.length
 sh:∀(i:Nat)(d:D),ρ[i]? = some (some (d,false))->∃v,σ[i]? = some (some v)/\Is K (cR N (own σ ρ)) v d
 ow:∀(i:Nat)(d:D),ρ[i]? = some (some (d,true))->∃(a:Addr)(o:HO),σ[i]? = some (some (V.ref a))/\N a=some o/\H0 a=none/\Bx K (cR N (own σ ρ)) o d
 inj:∀(i j:Nat)(a:Addr)(d e:D),ρ[i]? = some (some (d,true))->ρ[j]? = some (some (e,true))->σ[i]? = some (some (V.ref a))->σ[j]? = some (some (V.ref a))->i=j
def vg (K:Frag)(B0 H0 H:Hp)(σ:St)(ρ:Env):Prop:=∃N,cH K B0 H0 N H σ ρ
section
variable {K:Frag}{B0 H0 N H H':Hp}{σ:St}{ρ:Env}
theorem cH.owL (s:cH K B0 H0 N H σ ρ)(i:Nat)(d:D)(q:ρ[i]? = some (some (.lst es,true)))(hd:d=.lst es:=by rfl):∃(a:Addr)(vs:LV)(ds:LD),d=.lst ds/\σ[i]? = some (some (V.ref a))/\N a=some (.lst vs)/\H0 a=none/\IsL K (cR N (own σ ρ)) vs ds:=by
 obtain⟨a,o,h1,h2,h3,h4⟩:=s.ow i _ q;cases h4 with
 |lst h4=>exact⟨a,_,es,hd,h1,h2,h3,h4⟩
def boxed:HO->Prop
 |.lst _|.dK _ _|.dT _=>True
 |_=>False
theorem Bx.boxed (h:Bx K C o d):boxed o:=by cases h<;>exact trivial
theorem cH.owned (s:cH K B0 H0 N H σ ρ)(h:own σ ρ a):∃o,(N a=some o/\boxed o)/\H0 a=none:=by
 obtain⟨i,d,h1,h2⟩:=h;obtain⟨O,o,h3,h4,h5,M⟩:=s.ow i d h1;rw[h2]at h3;cases h3;exact⟨o,⟨h4,M.boxed⟩,h5⟩
theorem cH.rep (s:cH K B0 H0 N H σ ρ):dR K N σ ρ:=⟨s.tb.mono s.ext.bn,λi d b q=>by
 cases b with
 |false=>obtain⟨v,h1,h2⟩:=s.sh i d q;exact⟨v,h1,h2.mono br⟩
 |true=>
  obtain⟨a,o,h2,h3,_,h4⟩:=s.ow i d q;exact⟨_,h2,(h4.mono br).is h3⟩⟩
noncomputable def fN (ρ:Env):Env:=ρ.map λx=>match x with|some (d,false)=>some (d,false)|_=>none
theorem FI {i:Nat}{d:D}{b:Bool}(h:(fN ρ)[i]? = some (some (d,b))):b=false/\ρ[i]? = some (some (d,false)):=by
 unfold fN at h;rw[uZ]at h;cases e:ρ[i]? with
 |none=>rw[e]at h;cases h
 |some x=>
  rw[e]at h;match x,h with
  |some (d',false),h=>cases h;exact⟨rr,rr⟩
  |some (d',true),h=>cases h
  |none,h=>cases h
theorem cH.tbC (s:cH K B0 H0 N H σ ρ):Tb K (cR N (own σ ρ)):=λx hx c P q=>by
 have z:=s.tb.mono s.ext.bn x hx c P q;rw[bU]
 .exact z
 .intro y;obtain⟨o,⟨y,M⟩,_⟩:=s.owned y;rw[z]at y;cases y;exact M
theorem cH.repH (s:cH K B0 H0 N H σ ρ):dR K (cR N (own σ ρ)) σ (fN ρ):=⟨s.tbC,λi d b q=>by
 obtain⟨rfl,q2⟩:=FI q;exact s.sh i d q2⟩
theorem cH.grow (s:cH K B0 H0 N H σ ρ)(x:Ext N N' H H'):cH K B0 H0 N' H' σ ρ:=by
 have c:aD (cR N (own σ ρ)) _:=cY λa o e q=>⟨x.bn a o e,q⟩;refine⟨s.bh,s.tb,s.ext.trans x,s.len,λi d q=>?_,λi d q=>?_,s.inj⟩
 .obtain⟨v,h1,h2⟩:=s.sh i d q;exact⟨v,h1,h2.mono c⟩
 .obtain⟨a,o,h2,h3,h4,h5⟩:=s.ow i d q;exact⟨a,o,h2,x.bn _ _ h3,h4,h5.mono c⟩
theorem cH.growH (s:cH K B0 H0 N H σ ρ)(x:Ext (cR N (own σ ρ)) N' H H'):cH K B0 H0 (join N N') H' σ ρ/\aD N' (cR (join N N') (own σ ρ)):=by
 have M:Ext N (join N N') H H':=by
  refine⟨x.hh,cS,λa o e=>?_,λa o e=>?_⟩
  .cases q:N a with
   |some u=>
    have:join N N' a=some u:=cS _ _ q;rw[this]at e;cases e;exact x.hh _ _ (s.ext.nh _ _ q)
   |none=>rw[cO q]at e;exact x.nh _ _ e
  .cases q:N a with
   |some u=>
    simp_all[join]
   |none=>
    rw[cO q]at e;rcases x.new a o e with z|z
    .have:=br _ _ z;simp_all
    .exact .inr z
 refine⟨s.grow M,λa o e=>?_⟩;rcases x.new a o e with z|z
 .obtain⟨O,U⟩:=jn z;rw[bU O];exact cS _ _ U
 .have b:=s.ext.nh.free z;have:¬own σ ρ a:=λq=>by obtain⟨vs,⟨q,_⟩,_⟩:=s.owned q;lia
  simp_all[bU,cO]
noncomputable def unown (ρ:Env):Env:=ρ.map λx=>x.map λy=>(y.1,false)
theorem jP {i:Nat}{d:D}{b:Bool}(h:(unown ρ)[i]? = some (some (d,b))):b=false/\∃c,ρ[i]? = some (some (d,c)):=by
 unfold unown at h;simp_all<;>lia
theorem mQ {a:Addr}:¬own σ (unown ρ) a:=λ⟨i,d,h,_⟩=>by
 obtain⟨z,_⟩:=jP h;cases z
theorem cH.unown (s:cH K B0 H0 N H σ ρ):cH K B0 H0 N H σ (unown ρ):=by
 refine⟨s.bh,s.tb,s.ext,by unfold DL.unown;rw[vH];exact s.len,λi d q=>?_,λi d q=>?_,λi j a d e q=>?_⟩
 .obtain⟨_,c,q⟩:=jP q;obtain⟨v,h1,h2⟩:=s.rep.at' i d c q;exact⟨v,h1,h2.mono λa o e=>by rw[bU mQ];exact e⟩
 .obtain⟨z,_⟩:=jP q;cases z
 .obtain⟨z,_⟩:=jP q;cases z
theorem bF {α:Type}{l:List α}{i j:Nat}{x y:α}(h:(l.set i x)[j]? = some y):(i=j/\x=y)\/(i≠j/\l[j]? = some y):=by
 by_cases e:i=j
 .subst e;rw[List.getElem?_set]at h;split at h
  .split at h
   .exact .inl ⟨rr,vK h⟩
   .cases h
  .contradiction
 .rw[vA e]at h;exact .inr ⟨e,h⟩
theorem tu {α M:Type}{l:List α}{m:List M}{i:Nat}{x y:α}(h:(l.set i x)[i]? = some y)(e:l.length=m.length):i<m.length:=by
 obtain⟨h,_⟩:=vV h;rw[length_set]at h;lia
theorem p4 {i:Nat}{v:V}{x:OB}{a:Addr}(h:own (σ.set i (some v)) (ρ.set i x) a):(v=.ref a/\∃d,x=some (d,true))\/∃j,j≠i/\∃d,ρ[j]? = some (some (d,true))/\σ[j]? = some (some (V.ref a)):=by
 obtain⟨j,d,h1,h2⟩:=h;rcases bF h1 with⟨e,q⟩|⟨e,q⟩
 .rcases bF h2 with⟨e2,q2⟩|⟨e2,q2⟩
  .cases q2;exact .inl ⟨rr,d,q⟩
  .exact absurd e e2
 .rcases bF h2 with⟨e2,q2⟩|⟨e2,q2⟩
  .exact absurd e2 e
  .exact .inr ⟨j,λz=>e z.symm,d,q,q2⟩
theorem cH.bind (s:cH K B0 H0 N H σ ρ){i:Nat}{v:V}{d:D}(h:Is K (cR N (own σ ρ)) v d):cH K B0 H0 N H (σ.set i (some v)) (ρ.set i (some (d,false))):=by
 have o:∀a,own (σ.set i (some v)) (ρ.set i (some (d,false))) a->own σ ρ a:=λa q=>by
  rcases p4 q with⟨_,d',p⟩|⟨j,_,d',U,q2⟩
  .cases p
  .exact⟨j,d',U,q2⟩
 have c:aD (cR N _) _:=cY λa u e q=>⟨e,λz=>q (o a z)⟩;refine⟨s.bh,s.tb,s.ext,by simp[s.len],λj e q=>?_,λj e q=>?_,λj k a e f q b h1 h2=>?_⟩
 .rcases bF q with⟨rfl,p⟩|⟨ne,p⟩
  .cases p
   have hi:=tu q s.len;exact⟨v,by simp[hi],h.mono c⟩
  .obtain⟨w,h1,h2⟩:=s.sh j e p;exact⟨w,by simp_all,h2.mono c⟩
 .rcases bF q with⟨rfl,p⟩|⟨ne,p⟩
  .cases p
  .obtain⟨a,o,h1,h2,h3,h4⟩:=s.ow j e p;exact⟨a,o,by simp_all,h2,h3,h4.mono c⟩
 .rcases bF q with⟨rfl,p⟩|⟨ne,p⟩
  .cases p
  .rcases bF b with⟨rfl,M⟩|⟨O,M⟩
   .cases M
   .rw[vA ne]at h1;rw[vA O]at h2;exact s.inj j k a e f p M h1 h2
theorem cH.bindOwn (s:cH K B0 H0 N H σ ρ){i:Nat}{a:Addr}{ob:HO}{dd:D}(m:N a=some ob)(h0:H0 a=none)(O:∀(j:Nat)(d:D),ρ[j]? = some (some (d,true))->σ[j]? ≠ some (some (V.ref a)))
  (n:∀(j:Nat)(d:D),j≠i->ρ[j]? = some (some (d,false))->∃v,σ[j]? = some (some v)/\Is K (cR N (λb=>own σ ρ b\/b=a)) v d) (h:∀(j:Nat)(d:D),j≠i->ρ[j]? = some (some (d,true))->∃(U:Addr)(o:HO),σ[j]? = some (some (V.ref U))/\N U=some o/\Bx K (cR N (λb=>own σ ρ b\/b=a)) o d)
  (r:Bx K (cR N (λb=>own σ ρ b\/b=a)) ob dd):cH K B0 H0 N H (σ.set i (some (.ref a))) (ρ.set i (some (dd,true))):=by
 have o:∀b,own (σ.set i (some (V.ref a))) (ρ.set i (some (dd,true))) b->own σ ρ b\/b=a:=λb q=>by
  rcases p4 q with⟨p,_⟩|⟨j,_,d',t,q2⟩
  .cases p;exact .inr rr
  .exact .inl ⟨j,d',t,q2⟩
 have c:aD (cR N _) _:=cY λb u e q=>⟨e,λz=>q (o b z)⟩;refine⟨s.bh,s.tb,s.ext,by simp[s.len],λj e q=>?_,λj e q=>?_,λj k b e f q l h1 h2=>?_⟩
 .rcases bF q with⟨rfl,p⟩|⟨ne,p⟩
  .cases p
  .obtain⟨w,h1,h2⟩:=n j e (Ne.symm ne) p;exact⟨w,by simp_all,h2.mono c⟩
 .rcases bF q with⟨rfl,p⟩|⟨ne,p⟩
  .cases p
   have hi:=tu q s.len;exact⟨a,ob,by simp[hi],m,h0,r.mono c⟩
  .obtain⟨U,o',h1,h2,h4⟩:=h j e (Ne.symm ne) p;have h3:H0 U=none:=by
    obtain⟨A,_,k1,_,k3,_⟩:=s.ow j e p;simp_all
   exact⟨U,o',by simp_all,h2,h3,h4.mono c⟩
 .rcases bF q with⟨rfl,p⟩|⟨ne,p⟩
  .rcases bF l with⟨rfl,g⟩|⟨M,g⟩
   .rfl
   .rw[vA M]at h2;have x:V.ref a=V.ref b:=by
     rcases bF h1 with⟨_,z⟩|⟨z,_⟩
     .exact vK z
     .exact absurd rr z
    cases x
    exact absurd h2 (O k f g)
  .rcases bF l with⟨rfl,g⟩|⟨M,g⟩
   .rw[vA ne]at h1;have y:V.ref a=V.ref b:=by
     rcases bF h2 with⟨_,z⟩|⟨z,_⟩
     .exact vK z
     .exact absurd rr z
    cases y
    exact absurd h1 (O j e p)
   .rw[vA ne]at h1;rw[vA M]at h2;exact s.inj j k b e f p g h1 h2
end
set_option genInjectivity true in
inductive Res where
 |nx (ρ:Env)|rt (d:D) (b:Bool)|bk (ρ:Env)|ct (ρ:Env)
abbrev FS:=Env->Option Res
def TL (K:Frag)(B0 H0:Hp)(E:Ends):Res->Prop
 |.nx ρ=>∀σ H,vg K B0 H0 H σ ρ->E.nx σ H
 |.rt d b=>∀v H N,Ext B0 N H0 H->Is K N v d->(b=true->Sn K H0 N v d)->E.rt v H
 |.bk ρ=>∀σ H,vg K B0 H0 H σ ρ->E.bk σ H
 |.ct ρ=>∀σ H,vg K B0 H0 H σ ρ->E.ct σ H
def lE (K:Frag)(g:FS):TS:=λE σ H=>∃(B0 H0:Hp)(ρ:Env)(r:Res),vg K B0 H0 H σ ρ/\g ρ=some r/\TL K B0 H0 E r
section
variable {K:Frag}{B0 H0 N H H':Hp}{σ:St}{ρ:Env}{E:Ends}
theorem cH.writeB (s:cH K B0 H0 N H σ ρ)(hi:ρ[i]? = some (some (d,true)))(M:σ[i]? = some (some (V.ref a)))(h:Bx K (cR N (own σ ρ)) ob dd):
  cH K B0 H0 (upd N a ob) (upd H a ob) σ (ρ.set i (some (dd,true))):=by
 have oa:own σ ρ a:=⟨i,d,hi,M⟩;obtain⟨t,hw,h0⟩:=s.owned oa;have l:B0 a=none:=s.bh.free h0;have o:∀b,own σ (ρ.set i (some (dd,true))) b↔own σ ρ b:=λb=>by
  constructor
  .rintro⟨j,e,O,q2⟩;rcases bF O with⟨rfl,p⟩|⟨_,p⟩
   .exact⟨i,d,hi,q2⟩
   .exact⟨j,e,p,q2⟩
  .rintro⟨j,e,O,q2⟩;by_cases z:i=j
   .subst z;exact⟨i,dd,by rw[getElem?_set_self (vV hi).1],q2⟩
   .exact⟨j,e,by simp_all,q2⟩
 have c:aD (cR N (own σ ρ)) (cR (upd N a ob) (own σ (ρ.set i (some (dd,true))))):=cY λb u e q=>by
  have ne:b≠a:=λz=>q (z ▸ oa);exact⟨by rw[a6 ne];exact e,λz=>q ((o b).mp z)⟩
 refine⟨s.bh,s.tb,⟨λb u e=>?_,λb u e=>?_,λb u e=>?_,λb u e=>?_⟩,by rw[length_set];exact s.len,λj e q=>?_,λj e q=>?_,λj k b e f q m h1 h2=>?_⟩
 .rw[a6 (λz=>by subst z;rw[h0]at e;cases e)];exact s.ext.hh _ _ e
 .rw[a6 (λz=>by subst z;rw[l]at e;cases e)];exact s.ext.bn _ _ e
 .by_cases z:b=a
  .simp_all[aq]
  .rw[a6 z]at e |-;exact s.ext.nh _ _ e
 .by_cases z:b=a
  .subst z;exact .inr h0
  .rw[a6 z]at e;exact s.ext.new _ _ e
 .rcases bF q with⟨rfl,p⟩|⟨ne,p⟩
  .cases p
  .obtain⟨v,h1,h2⟩:=s.sh j e p;exact⟨v,h1,h2.mono c⟩
 .rcases bF q with⟨rfl,p⟩|⟨ne,p⟩
  .cases p
   exact⟨a,ob,M,aq,h0,h.mono c⟩
  .obtain⟨g,o',h1,h2,h3,h4⟩:=s.ow j e p;have n:g≠a:=λz=>by subst z;exact ne (s.inj i j _ d e hi p M h1)
   exact⟨g,o',h1,by rw[a6 n];exact h2,h3,h4.mono c⟩
 .have get:∀ {j:Nat}{e:D},(ρ.set i (some (dd,true)))[j]? = some (some (e,true))->∃U,ρ[j]? = some (some (U,true)):=λ{j e} q=>by
   rcases bF q with⟨rfl,p⟩|⟨ne,p⟩
   .exact⟨d,hi⟩
   .exact⟨e,p⟩
  obtain⟨U,O⟩:=get q;obtain⟨r,q2⟩:=get m;exact s.inj j k b U r O q2 h1 h2
theorem cH.write (s:cH K B0 H0 N H σ ρ)(hi:ρ[i]? = some (some (d,true)))(M:σ[i]? = some (some (V.ref a)))(h:IsL K (cR N (own σ ρ)) vs ds):
  cH K B0 H0 (upd N a (.lst vs)) (upd H a (.lst vs)) σ (ρ.set i (some (.lst ds,true))):=s.writeB hi M (.lst h)
theorem cH.tups (s:cH K B0 H0 N H σ ρ):∀a vs,fL K N a vs->fL K (cR N (own σ ρ)) a vs:=λa vs h=>by
 have key:∀u,N a=some u->¬boxed u->cR N (own σ ρ) a=some u:=λu e hu=>by
  rw[bU λz=>?_];exact e;obtain⟨M,⟨q,O⟩,_⟩:=s.owned z;simp_all
 rcases h with (h|⟨o,h⟩)|h
 .exact .inl (.inl (key _ h (λq=>q)))
 .exact .inl (.inr ⟨o,key _ h (λq=>q)⟩)
 .exact .inr h
theorem cH.flat (s:cH K B0 H0 N H σ ρ)(h:Is K N v d)(n:aI d=true):Is K (cR N (own σ ρ)) v d:=h.keepT s.tups n
theorem cH.flats (s:cH K B0 H0 N H σ ρ)(h:IsL K N v d)(n:aQ d=true):IsL K (cR N (own σ ρ)) v d:=h.keepT s.tups n
theorem cH.rebase (s:cH K B0 H0 N H σ ρ):cH K (cR N (own σ ρ)) (cR H (own σ ρ)) N H σ ρ:=
 ⟨cY λa o e q=>⟨s.ext.nh _ _ e,q⟩,s.tbC,⟨br,br,s.ext.nh,λa o e=>by
  grind[Af,bU]⟩,s.len,s.sh,λi d q=>by
   obtain⟨a,o,h1,h2,_,h4⟩:=s.ow i d q;exact⟨a,o,h1,h2,Af ⟨i,d,q,h1⟩,h4⟩,s.inj⟩
theorem cH.unbase (s:cH K B0 H0 N H σ ρ)(t:cH K (cR N (own σ ρ)) (cR H (own σ ρ)) N' H' O ρ'):cH K B0 H0 N' H' O ρ':=by
 have h0:aD H0 (cR H (own σ ρ)):=λa o e=>by
  rw[bU λz=>?_];exact s.ext.hh _ _ e;obtain⟨_,_,q⟩:=s.owned z;lia
 have M:aD B0 (cR N (own σ ρ)):=λa o e=>by
  rw[bU λz=>?_];exact s.ext.bn _ _ e;obtain⟨_,_,q⟩:=s.owned z;rw[s.bh _ _ e]at q;cases q
 refine⟨s.bh,s.tb,⟨h0.trans t.ext.hh,M.trans t.ext.bn,t.ext.nh,λa o e=>?_⟩,t.len,t.sh,λi d q=>?_,t.inj⟩
 .rcases t.ext.new a o e with z|z
  .exact s.ext.new a o (br _ _ z)
  .exact .inr (h0.free z)
 .obtain⟨a,o,h1,h2,h3,h4⟩:=t.ow i d q;exact⟨a,o,h1,h2,h0.free h3,h4⟩
theorem cH.based (t:cH K B0 H0 N H σ ρ):aD B0 (cR N (own σ ρ)):=λa o e=>by
 rw[bU λz=>?_];exact t.ext.bn _ _ e;obtain⟨_,_,q⟩:=t.owned z;rw[t.bh _ _ e]at q;cases q
@[simp] noncomputable def bd (g h:FS):FS:=λρ=>match g ρ with|some (.nx ρ')=>h ρ'|r=>r
@[simp] noncomputable def eN:FS:=λρ=>some (.nx ρ)
@[simp] noncomputable def p5 (c:FT)(g h:FS):FS:=λρ=>match c ρ with|some true=>g ρ|some false=>h ρ|none=>none
@[simp] noncomputable def pf (f:FE):FS:=λρ=>(f ρ).map λx=>.rt x.1 x.2
@[simp] noncomputable def FJ:D->Bool
 |.dk _ _=>true
 |.dt _ _=>true
 |_=>false
@[simp] def oj (i:Nat):FS:=λρ=>match ρ[i]? with|some (some (d,b))=>some (.rt d (b && !FJ d))|_=>none
@[simp] noncomputable def NQ:D->Bool
 |.lst ds=>aQ ds
 |_=>false
@[simp] def setE (ρ:Env)(i:Nat)(d:D)(b:Bool):Env:=
 if aI d=true then ρ.set i (some (d,false))else if b=true/\NQ d=true then ρ.set i (some (d,true))else (unown ρ).set i (some (d,false))
@[simp] def cP (i:Nat)(f:FE):FS:=λρ=>(f ρ).map λx=>.nx (setE ρ i x.1 x.2)
@[simp] def B3 (i:Nat)(f:FE):FS:=λρ=>(f (fN ρ)).map λx=>.nx (ρ.set i (some (x.1,false)))
@[simp] noncomputable def vh (i:Nat)(f:FE):FS:=λρ=>match ρ[i]? with
 |some (some (.lst ds,true))=>(f ρ).bind λx=>if aI x.1=true/\ds.length<sizeLine then some (.nx (ρ.set i (some (.lst (ds++[x.1]),true))))else none
 |_=>none
theorem Ls (q:lE K (bd g h) E σ H):Td (lE K g) (lE K h) E σ H:=by
 obtain⟨B0,H0,ρ,r,s,e,p⟩:=q;unfold bd at e;cases M:g ρ with
 |none=>rw[M]at e;cases e
 |some O=>
  rw[M]at e;cases O with
  |nx ρ'=>exact⟨B0,H0,ρ,.nx ρ',s,M,λU H' s'=>⟨B0,H0,ρ',r,s',e,p⟩⟩
  |rt d b=>cases e;exact⟨B0,H0,ρ,_,s,M,p⟩
  |bk ρ'=>cases e;exact⟨B0,H0,ρ,_,s,M,p⟩
  |ct ρ'=>cases e;exact⟨B0,H0,ρ,_,s,M,p⟩
theorem FK (q:lE K eN E σ H):NG E σ H:=by
 obtain⟨B0,H0,ρ,r,s,e,p⟩:=q;cases e
 exact p σ H s
theorem vg.grown (s:cH K B0 H0 N H σ ρ)(h:aD H H'):vg K B0 H0 H' σ ρ:=⟨N,s.grow (.grow s.ext.nh h)⟩
theorem Pt (q:lE K (p5 c g h) E σ H):Tg (B1 K c) (lE K g) (lE K h) E σ H:=by
 obtain⟨B0,H0,ρ,r,⟨N,s⟩,e,p⟩:=q;unfold p5 at e;cases M:c ρ with
 |none=>rw[M]at e;cases e
 |some b=>
  rw[M]at e;refine⟨N,ρ,b,s.ext.nh,s.rep,M,λO h1=>?_⟩;cases b with
  |true=>rw[if_pos rr];exact⟨B0,H0,ρ,r,.grown s h1,e,p⟩
  |false=>rw[if_neg Z9];exact⟨B0,H0,ρ,r,.grown s h1,e,p⟩
theorem Lu (q:lE K (pf f) E σ H):OO (tD K f) E σ H:=by
 obtain⟨B0,H0,ρ,r,⟨N,s⟩,e,p⟩:=q;obtain⟨x,ex,e⟩:=oY e;subst e;exact⟨N,ρ,x.1,x.2,s.ext.nh,s.rep,ex,λv M N1 O i1 f1=>p v M N1 (s.ext.trans O) i1 λb=>(f1 b).back s.ext.hh⟩
theorem FL (q:lE K (oj i) E σ H):OO (Fh i) E σ H:=by
 obtain⟨B0,H0,ρ,r,⟨N,s⟩,e,p⟩:=q;unfold oj at e;split at e
 .rename_i d b ei;cases e
  cases b with
  |false=>
   obtain⟨v,h1,h2⟩:=s.sh i d ei;exact⟨v,h1,p v H N s.ext (h2.mono br) V9⟩
  |true=>
   obtain⟨a,o,h1,h2,h3,h4⟩:=s.ow i d ei;cases h4 with
   |lst h4=>exact⟨_,h1,p _ H N s.ext (.lst (dW.of h2) (h4.mono br)) λ_=>⟨a,_,_,rr,rr,h3,h2,h4.mono br⟩⟩
   |dk hl h4=>exact⟨_,h1,p _ H N s.ext (.dk h2 hl (h4.mono br)) V9⟩
   |dt hl h4=>exact⟨_,h1,p _ H N s.ext (.dt h2 hl (h4.mono br)) V9⟩
 simp_all
theorem cH.setE (s:cH K B0 H0 N H σ ρ)(x:Ext N N1 H H1)(h:Is K N1 v d)(f:b=true->Sn K H N1 v d):cH K B0 H0 N1 H1 (σ.set i (some v)) (setE ρ i d b):=by
 have s1:=s.grow x;unfold DL.setE;by_cases hn:aI d=true
 .rw[if_pos hn];exact s1.bind (s1.flat h hn)
 .rw[if_neg hn];by_cases hb:b=true/\NQ d=true
  .rw[if_pos hb];obtain⟨es,rfl⟩:∃es,d=.lst es:=by cases d<;>first|exact⟨_,rr⟩|(simp at hb)
   obtain⟨a,vs,ds,rfl,z,ha,M,hs⟩:=f hb.1;cases z
   have O:N a=none:=s.ext.nh.free ha;have U:¬own σ ρ a:=λz=>by obtain⟨g,⟨q,_⟩,_⟩:=s.owned z;lia
   have c:aD (cR N (own σ ρ)) (cR N1 (λb=>own σ ρ b\/b=a)):=cY λb u e q=>⟨x.bn _ _ e,λz=>z.elim q λz=>by subst z;rw[O]at e;cases e⟩;refine s1.bindOwn M (s.ext.hh.free ha) (λj e q z=>U ⟨j,e,q,z⟩) (λj e _ q=>?_) (λj e _ q=>?_) (.lst (hs.keepT (λt l st=>?_) hb.2))
   .obtain⟨w,h1,h2⟩:=s.sh j e q;exact⟨w,h1,h2.mono c⟩
   .obtain⟨k,o',h1,h2,_,h4⟩:=s.ow j e q;exact⟨k,o',h1,x.bn _ _ h2,h4.mono c⟩
   .have key:∀u,N1 t=some u->¬boxed u->cR N1 (λb=>own σ ρ b\/b=a) t=some u:=λu e hu=>by
     rw[bU λz=>?_];exact e;rcases z with z|z
     .obtain⟨g,⟨q,m⟩,_⟩:=s1.owned z;simp_all
     .subst z;rw[e]at M;cases M;exact hu trivial
    rcases st with (st|⟨o,st⟩)|st
    .exact .inl (.inl (key _ st (λq=>q)))
    .exact .inl (.inr ⟨o,key _ st (λq=>q)⟩)
    .exact .inr st
  .rw[if_neg hb];exact s1.unown.bind (h.mono λa o e=>by rw[bU mQ];exact e)
theorem B4 (q:lE K (cP i f) E σ H):zQ (tD K f) (gQ i) E σ H:=by
 obtain⟨B0,H0,ρ,r,⟨N,s⟩,e,p⟩:=q;obtain⟨x,ex,e⟩:=oY e;subst e;exact⟨N,ρ,x.1,x.2,s.ext.nh,s.rep,ex,λv M N1 O i1 f1=>p _ M ⟨N1,s.setE O i1 f1⟩⟩
theorem FM (q:lE K (B3 i f) E σ H):zQ (tD K f) (gQ i) E σ H:=by
 obtain⟨B0,H0,ρ,r,⟨N,s⟩,e,p⟩:=q;obtain⟨x,ex,e⟩:=oY e;subst e;refine⟨cR N (own σ ρ),fN ρ,x.1,x.2,br.trans s.ext.nh,s.repH,ex,λv M N1 O i1 f1=>?_⟩;obtain⟨s1,c⟩:=s.growH O;exact p _ M ⟨_,s1.bind (i1.mono c)⟩
theorem Lv (q:lE K (vh i f) E σ H):∃(a:Addr)(us:LV),σ[i]? = some (some (V.ref a))/\H a=some (.lst us)/\NM (tD K f) T3 σ H λxs H2=>Bv (.ref a) xs H2 λ_ U=>E.nx σ U:=by
 obtain⟨B0,H0,ρ,r,⟨N,s⟩,e,p⟩:=q;unfold vh at e;split at e
 .rename_i ds ei;obtain⟨x,ex,e⟩:=oX e;split at e
  .rename_i hx;cases e
   obtain⟨a,vs,M,z,h1,h2,h3,h4⟩:=s.owL i _ ei;cases z
   refine⟨a,vs,h1,s.ext.nh _ _ h2,N,ρ,x.1,x.2,s.ext.nh,s.rep,ex,λv b N1 O i1 f1=>⟨a,vs,v,rr,rr,O.hh _ _ (s.ext.nh _ _ h2),by rw[h4.length];exact hx.2,?_⟩⟩;have s1:=s.grow O;obtain⟨c,d,M,z,k1,k2,_,k4⟩:=s1.owL i _ ei;cases z
   rw[h1]at k1;cases k1;rw[O.bn _ _ h2]at k2;cases k2;exact p σ _ ⟨_,s1.write ei h1 (k4.append (.cons (s1.flat i1 hx.1) .nil))⟩
  simp_all
 simp_all
end
noncomputable def cA (c:FT)(g:FS):Nat->Env->Option Res
 |0,_=>none
 |n+1,ρ=>match c ρ with
  |some true=>match g ρ with
   |some (.nx ρ')=>cA c g n ρ'
   |some (.ct ρ')=>cA c g n ρ'
   |some (.bk ρ')=>some (.nx ρ')
   |r=>r
  |some false=>some (.nx ρ)
  |none=>none
theorem DE (q:lE K (cA c g n) E σ H):Fm (B1 K c) (lE K g) E σ H:=by
 obtain⟨B0,H0,ρ,r,s,e,p⟩:=q;refine⟨λm σ H=>∃ρ,vg K B0 H0 H σ ρ/\cA c g m ρ=some r,⟨n,ρ,s,e⟩,?_⟩;rintro m σ H ⟨ρ,⟨N,s⟩,e⟩;cases m with
 |zero=>cases e
 |succ m=>
  unfold cA at e;cases O:c ρ with
  |none=>rw[O]at e;cases e
  |some b=>
   rw[O]at e;refine⟨N,ρ,b,s.ext.nh,s.rep,O,λf h1=>?_⟩;cases b with
   |false=>rw[if_neg Z9];cases e;exact p σ f (.grown s h1)
   |true=>
    rw[if_pos rr];refine⟨λσ H=>∃ρ,vg K B0 H0 H σ ρ/\cA c g m ρ=some r,λM H' w=>⟨m,Nat.lt_succ_self m,w⟩,?_⟩;cases U:g ρ with
    |none=>rw[U]at e;cases e
    |some a=>
     rw[U]at e;refine⟨B0,H0,ρ,a,.grown s h1,U,?_⟩;cases a with
     |nx ρ'=>exact λM H' s'=>⟨ρ',s',e⟩
     |ct ρ'=>exact λM H' s'=>⟨ρ',s',e⟩
     |bk ρ'=>cases e;exact λM H' s'=>p M H' s'
     |rt d b=>cases e;exact p
def lF (K:Frag)(J:It)(B:Hp)(ds:LD):Prop:=∀(i:Nat)(H:Hp),aD B H ->
 (∀d,ds[i]? = some d->J.go i H/\∀x H',J.yld i H x H'->∃N,Ext B N H H'/\Is K N x d)/\(ds.length<=i->J.stop i H)
def Zj (K:Frag)(f:FA):TI:=λσ H R=>∃(B:Hp)(ρ:Env)(ds:LD),aD B H/\dR K B σ ρ/\f ρ=some ds/\∀(J:It)(H' N:Hp),Ext B N H H'->lF K J N ds->R J H'
abbrev FG:=D->Env->Option Env
def K9 (K:Frag)(tg:FG)(g:TG):Prop:=∀(B0 H0 N H:Hp)(σ:St)(ρ ρ':Env)(v:V)(d:D)(Q:St->Hp->Prop),cH K B0 H0 N H σ ρ->Is K (cR N (own σ ρ)) v d->tg d ρ=some ρ' ->
 (∀M H',vg K B0 H0 H' M ρ'->Q M H')->g v σ H Q
@[simp] noncomputable def dS (i:Nat):FG:=λd ρ=>some (ρ.set i (some (d,false)))
theorem FN:K9 K (dS i) (gQ i):=by
 intro B0 H0 N H σ ρ ρ' v d Q s h e k;cases e
 exact k _ H ⟨N,s.bind h⟩
noncomputable def cB (tg:FG)(g:FS):LD->Env->Option Res
 |[],ρ=>some (.nx ρ)
 |d::ds,ρ=>(tg d ρ).bind λM=>match g M with
  |some (.nx ρ')=>cB tg g ds ρ'
  |some (.ct ρ')=>cB tg g ds ρ'
  |some (.bk ρ')=>some (.nx ρ')
  |r=>r
@[simp] theorem jo (tg:FG)(g:FS)(ρ:Env):cB tg g [] ρ=some (.nx ρ):=by rw[cB]
@[simp] theorem mR (tg:FG)(g:FS)(d:D)(ds:LD)(ρ:Env):cB tg g (d::ds) ρ=(tg d ρ).bind λM=>match g M with
  |some (.nx ρ')=>cB tg g ds ρ'
  |some (.ct ρ')=>cB tg g ds ρ'
  |some (.bk ρ')=>some (.nx ρ')
  |r=>r:=by rw[cB]
@[simp] def vi (f:FA)(tg:FG)(g:FS):FS:=λρ=>(f (fN ρ)).bind λds=>cB tg g ds ρ
theorem xJ (w:K9 K tg t)(s1:cH K B0 H0 N H1 σ ρ)(c:aD N1 (cR N (own σ ρ)))(J1:lF K J N1 ds)(e:cB tg g ds ρ=some r)(p:TL K B0 H0 E r):
  ∃W:Nat->Nat->St->Hp->Prop,(∃m,W 0 m σ H1)/\∀i m σ H,W i m σ H->(J.stop i H/\E.nx σ H)\/(J.go i H/\∃N:St->Hp->Prop,(∀M H',N M H'->∃l,l<m/\W (i+1) l M H')/\∀x H',J.yld i H x H'->t x σ H' λf H2=>lE K g { E with nx:=N,ct:=N,bk:=E.nx } f H2):=by
 refine⟨λi m σ H=>∃(N:Hp)(ρ:Env),cH K B0 H0 N H σ ρ/\aD N1 (cR N (own σ ρ))/\m=ds.length - i/\i<=ds.length/\cB tg g (ds.drop i) ρ=some r,⟨ds.length,_,ρ,s1,c,rr,uM _,e⟩,?_⟩;clear e s1 c;rintro i m σ H ⟨N,ρ,s,c,rfl,hi,e⟩;have hs:aD N1 H:=c.trans (br.trans s.ext.nh);obtain⟨A,B⟩:=J1 i H hs;by_cases O:i<ds.length
 .obtain⟨go,C⟩:=A ds[i] (by simp[O]);rw[List.drop_eq_getElem_cons O]at e;obtain⟨h,D,e⟩:=oX e;refine .inr ⟨go,λM H'=>∃(N:Hp)(ρ:Env),cH K B0 H0 N H' M ρ/\aD N1 (cR N (own M ρ))/\cB tg g (ds.drop (i+1)) ρ=some r,λM H' ⟨N',ρ',s',F,G⟩=>⟨_,N9,N',ρ',s',F,rr,O,G⟩,λx H' y=>?_⟩;obtain⟨N2,U,i2⟩:=C x H' y;have I:Ext (cR N (own σ ρ)) (join (cR N (own σ ρ)) N2) H H':=by
   refine⟨U.hh,cS,λa o e=>?_,λa o e=>?_⟩
   .cases q:cR N (own σ ρ) a with
    |some u=>rw[cS _ _ q]at e;cases e;exact U.hh _ _ (s.ext.nh _ _ (br _ _ q))
    |none=>rw[cO q]at e;exact U.nh _ _ e
   .cases q:cR N (own σ ρ) a with
    |some u=>rw[cS _ _ q]at e;simp_all
    |none=>
     rw[cO q]at e;rcases U.new a o e with z|z
     .rw[c _ _ z]at q;cases q
     .exact .inr z
  obtain⟨s2,c2⟩:=s.growH I;have c3:aD N2 (join (cR N (own σ ρ)) N2):=λa o e=>by
   rcases U.new a o e with z|z
   .exact cS _ _ (c _ _ z)
   .rw[cO ((br.trans s.ext.nh).free z)];exact e
  have L:=i2.mono (c3.trans c2);have P:aD N1 (cR (join N (join (cR N (own σ ρ)) N2)) (own σ ρ)):=(U.bn.trans c3).trans c2;refine w _ _ _ _ _ _ _ _ _ _ s2.rebase L D λf H2 ⟨Q,R⟩=>?_;cases k:g h with
  |none=>rw[k]at e;cases e
  |some n=>
   rw[k]at e;refine⟨_,_,h,n,⟨Q,R⟩,k,?_⟩;have back:∀ {M:St}{H':Hp}{ρ':Env}{N':Hp},cH K _ _ N' H' M ρ'->cH K B0 H0 N' H' M ρ'/\aD N1 (cR N' (own M ρ')):=λt=>⟨s2.unbase t,P.trans t.based⟩;cases n with
   |nx ρ'=>exact λM H' ⟨N',t⟩=>⟨N',ρ',(back t).1,(back t).2,e⟩
   |ct ρ'=>exact λM H' ⟨N',t⟩=>⟨N',ρ',(back t).1,(back t).2,e⟩
   |bk ρ'=>cases e;exact λM H' ⟨N',t⟩=>p M H' ⟨N',(back t).1⟩
   |rt d b=>
    cases e
    intro v H' N' j S T;have y:=s2.rebase.ext;have h0:aD H0 (cR H' (λ_=>False)):=λa o e=>by rw[bU (λz=>z)];exact j.hh _ _ (by
     rw[bU λz=>?_];exact s2.ext.hh _ _ e;obtain⟨_,_,q⟩:=s2.owned z;lia)
    have V:aD H0 (cR H' (λ_=>False)):=h0;have X:aD H0 (cR H' (λ_=>False)):=h0;have hc:∀a,cR H' (λ_=>False) a=H' a:=λa=>bU (λz=>z);have hb:aD H0 (cR _ (own σ ρ)):=λa o e=>by
     rw[bU λz=>?_];exact s2.ext.hh _ _ e;obtain⟨_,_,q⟩:=s2.owned z;lia
    have bb:aD B0 (cR _ (own σ ρ)):=λa o e=>by
     rw[bU λz=>?_];exact s2.ext.bn _ _ e;obtain⟨_,_,q⟩:=s2.owned z;rw[s2.bh _ _ e]at q;cases q
    refine p v H' N' ⟨hb.trans j.hh,bb.trans j.bn,j.nh,λa o e=>?_⟩ S λz=>(T z).back hb;rcases j.new a o e with z|z
    .exact s2.ext.new a o (br _ _ z)
    .exact .inr (hb.free z)
 .have ei:i=ds.length:=N9
  subst ei;rw[List.drop_eq_nil_of_le (vT _)]at e;cases e
  exact .inl ⟨B (vT _),p σ H ⟨N,s⟩⟩
theorem Lx (M:K9 K tg t)(q:lE K (vi f tg g) E σ H):OS (Zj K f) t (lE K g) E σ H:=by
 obtain⟨B0,H0,ρ,r,⟨N,s⟩,e,p⟩:=q;obtain⟨ds,O,e⟩:=oX e;refine⟨cR N (own σ ρ),fN ρ,ds,br.trans s.ext.nh,s.repH,O,λJ a N1 U J1=>?_⟩;obtain⟨s1,c⟩:=s.growH U;exact xJ M s1 c J1 e p
def TM (K:Frag)(f:FA):TI:=λσ H R=>∃(B:Hp)(ρ:Env)(ds:LD),aD B H/\dR K B σ ρ/\f ρ=some ds/\∀(J:It)(H' N:Hp),Ext B N H H'->(∀M,lF K J M ds)->R J H'
@[simp] def t0 (f:FA)(tg:FG)(g:FS):FS:=λρ=>(f ρ).bind λds=>cB tg g ds ρ
theorem FP (M:K9 K tg t)(q:lE K (t0 f tg g) E σ H):OS (TM K f) t (lE K g) E σ H:=by
 obtain⟨B0,H0,ρ,r,⟨N,s⟩,e,p⟩:=q;obtain⟨ds,O,e⟩:=oX e;refine⟨N,ρ,ds,s.ext.nh,s.rep,O,λJ a N1 U J1=>?_⟩;exact xJ M (s.grow U) (aD.refl _) (J1 _) e p
end DL
namespace DL
open PySem PySem.Spec PyProof.Rows L2
abbrev JE (X:Cx)(e:Expr)(f:FE):Prop:=PE X e (tD X.K f)
abbrev JT (X:Cx)(e:Expr)(f:FT):Prop:=PT X e (B1 X.K f)
abbrev JW (X:Cx)(e:Expr)(f:FT):Prop:=PW X e (B1 X.K f)
abbrev JA (X:Cx)(es:QD)(f:FA):Prop:=PA X es (So X.K f)
abbrev JS (X:Cx)(st:Stmt)(g:FS):Prop:=PS X st (lE X.K g)
abbrev xx (X:Cx)(st:List Stmt)(g:FS):Prop:=sU X st (lE X.K g)
abbrev JI (X:Cx)(tg M:Expr)(f:FA):Prop:=PI X tg M (Zj X.K f)
def Pu (M:Model)(A:Around)(U:QD)(a:Expr)(env:PySem.Env)(acc:Value)(E:QV)(P:Shared->Prop):Shared->Prop:=
 wpAny M A (forIn U true λc r=>if r=true then do let ok <-isTrue c env (eval c env);pure (ForInStep.yield ok)else pure (ForInStep.yield r))
  (λok O=>if ok=true then wpAny M A (eval a env) (λx=>wpAny M A (call (.builtin "list.append") [acc,x]) (λ_=>P) E) E O else P O) E
theorem vj {E:QV}(i:∀x s,¬E x s)(I:Nat->Shared->Prop)
  (j:∀n s,I n s->wpAny (model prog w) A (pyNext it) (λr M=>match r with
   |none=>R (.ok .next) M
   |some v=>wpAny (model prog w) A (letOwnedTupleGo Ky it v) (λ_=>wpAny (model prog w) A (assign Ky env v) (λ_=>Pu (model prog w) A u8 xu env acc E λs=>∃m,m<n/\I m s) E) E M) E s)
  (n:Nat) (h:I n s):codeAny (model prog w) A (.compLoop (.ListComp xu [⟨Ky,dC,u8,0⟩] scope pos) 0 it acc env) R s:=by
 refine codeAny_loop rr I (λn s k=>?_) n h;refine wpAny_noted (wpAny_mono (E:=E) ?_ (λ_ _ q=>q) λ_ _ z=>(i _ _ z).elim);rw[compTurn_list];refine wX (wpAny_standAt (wX (bJ (j n s k) λr M O=>?_)));cases r with
 |none=>exact wY O
 |some v=>
  refine wX (bJ O λ_ M O=>wX (bJ O λ_ d a=>wX (bJ a λok e U=>?_)));cases ok with
  |false=>exact wY ⟨rr,U⟩
  |true=>exact wX (wX (bJ U λx f b=>wX (bJ b λ_ g c=>wY (wY ⟨rr,c⟩))))
theorem Ext.upd (x:Ext B N H H')(h:H a=none)(M:N a=none):Ext B N H (upd H' a o):=
 ⟨λb u e=>by rw[a6 (λz=>by subst z;rw[h]at e;cases e)];exact x.hh _ _ e,x.bn,λb u e=>by rw[a6 (λz=>by subst z;rw[M]at e;cases e)];exact x.nh _ _ e,x.new⟩
noncomputable abbrev gG (X:Cx)(N':LS)(scope:Scope)(cl:List (Str×Addr))(C:Addr)(M:Shared)(O:Hp)(fp:List Addr):Cx:=
 { X with N:=N',s₀:=M,H₀:=O,env:=compEnvC scope cl C X.env,outer:=X.stack,stack:=X.stack,ex:=fp,fn:=λ_=>false,pn:=[],xe:=λ_ _=>False }
inductive ly (X:Cx)(N':List Str)(scope:Scope)(cl:List (Str×Addr)):Nat->List Nat->Prop where
 |nil {j:Nat}(h:N'.length=j):ly X N' scope cl j []
 |cons {j i:Nat}{r:List Nat}{x:Str}(h1:N'[j]? = some x) (h2:X.N[i]? = some x) (h3:X.env.kindOf x=some .cell\/X.env.kindOf x=some .free)
   (h4:(relabel scope X.env).names.lookup x=some .cell\/(relabel scope X.env).names.lookup x=some .free) (h5:cl.lookup x=X.env.cells.lookup x) (t:ly X N' scope cl (j+1) r):ly X N' scope cl j (i::r)
theorem ly.len:∀ {j:Nat}{cap:LN},ly X N' scope cl j cap->N'.length=j+cap.length
 |_,_,.nil h=>by rw[h];rfl
 |j,i::r,.cons _ _ _ _ _ t=>by rw[t.len,vC];lia
theorem ly.get:∀ {j:Nat}{cap:LN}{k i:Nat},ly X N' scope cl j cap->cap[k]? = some i->∃x,N'[j+k]? = some x/\X.N[i]? = some x/\(X.env.kindOf x=some .cell\/X.env.kindOf x=some .free) /\
  ((relabel scope X.env).names.lookup x=some .cell\/(relabel scope X.env).names.lookup x=some .free)/\cl.lookup x=X.env.cells.lookup x
 |_,_,_,_,.nil _,e=>by simp at e
 |j,_,0,_,.cons h1 h2 h3 h4 h5 _,e=>by simp at e;subst e;exact⟨_,h1,h2,h3,h4,h5⟩
 |j,_,k+1,i,.cons _ _ _ _ _ t,e=>by
  obtain⟨x,q,r⟩:=t.get (by simpa using e);exact⟨x,N9,r⟩
structure CompSc (X:Cx)(scope:Scope)(cl:List (Str×Addr)):Prop where
 clos:closureFor scope X.env=pure cl
 nocell:∀y∈scope.names,y.2≠.cell
 kind:scope.kind=.function
 names:∀y∈scope.names,y.2=.local->scope.names.lookup y.1=some .local
 sub:∀x c,cl.lookup x=some c->X.env.cells.lookup x=some c
 has:∀x,((relabel scope X.env).names.lookup x=some .cell\/(relabel scope X.env).names.lookup x=some .free)->∃c,cl.lookup x=some c
noncomputable def cZ:List (Str×NameKind)->List (Str×Addr)->List (Str×Addr)->List (Str×Addr)
 |[],_,cs=>cs
 | (n,k)::r,cells,cs=>cZ r cells (if k == .free then (match cells.lookup n with|some c=>(n,c)::cs|none=>cs)else cs)
theorem t6:∀(names:List (Str×NameKind))(cs:List (Str×Addr)),(∀y∈names,y.2=.free->(env.cells.lookup y.1).isSome=true) ->
    (do let mut cs:=cs
        for (name,kind)in names do
          if kind == .free then cs:=(name,<-cellOf env name)::cs
        return cs:Sem (List (Str×Addr)))=pure (cZ names env.cells cs):=by
  intro names;induction names with
  |nil=>intro cs _;rfl
  |cons y r M=>
    intro cs h;grind[cZ,cellOf]
theorem lG:∀(names:List (Str×NameKind))(cs:List (Str×Addr)),(∀y d,cs.lookup y=some d->cells.lookup y=some d)->(cZ names cells cs).lookup x=some c->cells.lookup x=some c
 |[],cs,h,e=>h x c e
 | (n,k)::r,cs,h,e=>by
  refine lG r _ (λy d q=>?_) e;split at q
  .split at q
   .rename_i O M;rw[lookup_cons]at q;split at q
    .rename_i hy;cases q
     rw[eq_of_beq hy];exact M
    .exact h y d q
   .exact h y d q
  .exact h y d q
theorem t7:∀(names:List (Str×NameKind))(cs:List (Str×Addr)),(cs.lookup x).isSome=true->((cZ names cells cs).lookup x).isSome=true
 |[],cs,h=>h
 | (n,k)::r,cs,h=>by
  refine t7 r _ ?_;split
  .split
   .rw[lookup_cons];split
    .rfl
    .exact h
   .exact h
  .exact h
theorem lH:∀(names:List (Str×NameKind))(cs:List (Str×Addr)),(x,NameKind.free)∈names->(cells.lookup x).isSome=true->((cZ names cells cs).lookup x).isSome=true
 | (n,k)::r,cs,hm,hc=>by
  rcases vP hm with e|e
  .cases e
   refine t7 r _ ?_;grind
  .exact lH r _ e hc
theorem fO {α:Type}{x:Str}{k:α}:∀ {l:List (Str×α)},l.lookup x=some k->(x,k)∈l
 | (n,j)::r,h=>by
  rw[lookup_cons]at h;split at h
  .simp_all
  .exact mZ _ (fO h)
theorem Pw {X:Cx}{scope:Scope}(h1:∀y∈scope.names,y.2≠.cell)(h2:scope.kind=.function)(h3:∀y∈scope.names,y.2=.local->scope.names.lookup y.1=some .local)(M:(scope.names.all λy=>!(y.2 == NameKind.free) || (X.env.cells.lookup y.1).isSome)=true):
  CompSc X scope (cZ scope.names X.env.cells []):=by
 have h4:∀y∈scope.names,y.2=.free->(X.env.cells.lookup y.1).isSome=true:=λy hy e=>by
  grind
 have frees:∀x,((relabel scope X.env).names.lookup x=some .cell\/(relabel scope X.env).names.lookup x=some .free)->(x,NameKind.free)∈scope.names:=λx h=>by
  have:∃k,(x,k)∈(relabel scope X.env).names/\(k=.cell\/k=.free):=by
   grind[fO]
  grind[relabel]
 exact⟨t6 _ [] h4,h1,h2,h3,λx c e=>lG _ [] (λy d q=>by cases q) e,λx h=>by
  have:=lH _ [] (frees x h) (h4 _ (frees x h) rr);exact uT this⟩
theorem p6 {scope:Scope}{cells:List (Str×Addr)}{x:Str}(h:(x,NameKind.free)∈scope.names)(hc:(cells.lookup x).isSome=true):(cZ scope.names cells []).lookup x=cells.lookup x:=by
 obtain⟨c,e⟩:=uT (lH _ [] h hc);grind[lG]
noncomputable def xK (nT:Nat)(cap:LN)(σ:St):St:=List.replicate nT none++cap.map λi=>(σ[i]?).join
noncomputable def cm (nT:Nat)(cap:LN)(ρ:Env):Env:=List.replicate nT none++cap.map λi=>match ρ[i]? with|some (some (d,_))=>some (d,false)|_=>none
theorem vk {α:Type}{nT:Nat}{cap:LN}{f:Nat->Option α}{j:Nat}{v:α}(h:(List.replicate nT none++cap.map f)[j]? = some (some v)):∃k i,j=nT+k/\cap[k]? = some i/\f i=some v:=by
 by_cases hj:j<nT
 .rw[getElem?_append_left (by simpa using hj),List.getElem?_replicate,if_pos hj]at h;cases h
 .rw[List.getElem?_append_right (by simpa using Nat.not_lt.mp hj),length_replicate,uZ]at h;obtain⟨i,h1,h2⟩:=oY h;exact⟨j - nT,i,N9,h1,h2⟩
theorem Ly {α:Type}{nT:Nat}{cap:LN}{f:Nat->Option α}{k i:Nat}{v:α}(h1:cap[k]? = some i)(h2:f i=some v):(List.replicate nT none++cap.map f)[nT+k]? = some (some v):=by
 rw[List.getElem?_append_right V9,length_replicate,uZ,Nat.add_sub_cancel_left,h1];simp[h2]
theorem dR.caps {K:Frag}{B:Hp}{σ:St}{ρ:Env}{nT:Nat}{cap:LN}(h:dR K B σ ρ):dR K B (xK nT cap σ) (cm nT cap ρ):=⟨h.tb,λj d b q=>by
 obtain⟨k,i,rfl,h1,h2⟩:=vk q;split at h2
 .rename_i d' b' e;cases h2
  obtain⟨v,g1,M⟩:=h.at' i _ _ e;exact⟨v,Ly h1 (by rw[g1];rfl),M⟩
 simp_all⟩
noncomputable def fu (tg:FG)(c:FT)(fe:FE)(ρ:Env):LD->Option LD
 |[]=>some []
 |d::r=>(tg d ρ).bind λM=>(c M).bind λb=>if b=true then (fe M).bind λx=>(fu tg c fe ρ r).map (x.1 :: ·)else fu tg c fe ρ r
@[simp] theorem Sr (tg:FG)(c:FT)(fe:FE)(ρ:Env):fu tg c fe ρ []=some []:=by rw[fu]
@[simp] theorem Ag (tg:FG)(c:FT)(fe:FE)(ρ:Env)(d:D)(r:LD):fu tg c fe ρ (d::r)=(tg d ρ).bind λM=>(c M).bind λb=>if b=true then (fe M).bind λx=>(fu tg c fe ρ r).map (x.1 :: ·)else fu tg c fe ρ r:=by rw[fu]
@[simp] def fw (fi:FA)(nT:Nat)(cap:LN)(tg:FG)(c:FT)(fe:FE):FE:=λρ=>(fi ρ).bind λitems=>if items.length<=sizeLine then (fu tg c fe (cm nT cap ρ) items).map λds=>(.lst ds,true)else none
def Lz (K:Frag)(n:Nat)(tg:FG)(g:TG):Prop:=∀(B H:Hp)(σ:St)(ρ O:Env)(v:V)(d:D)(Q:St->Hp->Prop),(∀i,i<n->ρ[i]? = some none)->dR K B σ ρ->aD B H->Is K B v d->tg d ρ=some O ->
 ρ.length=σ.length->(∀M,dR K B M O->(∀U,dR K U σ ρ->dR K U M ρ)->ρ.length=M.length->Q M H)->g v σ H Q
theorem pO {K:Frag}{n i:Nat}(hi:i<n):Lz K n (dS i) (gQ i):=by
 intro B H σ ρ U v d Q cl rep s h e hl k;cases e
 have O:i<σ.length:=by
  grind
 refine k _ ⟨rep.tb,λj e b q=>?_⟩ ?_ (by simpa using hl)
 .rcases bF q with⟨rfl,p⟩|⟨ne,p⟩
  .simp_all
  .obtain⟨w,h1,h2⟩:=rep.at' j e b p;simp_all
 .intro a M;refine⟨M.tb,λj e b q=>?_⟩;obtain⟨w,h1,h2⟩:=M.at' j e b q;have ne:i≠j:=λz=>by grind
  exact⟨w,by simp_all,h2⟩
def JC (X:Cx)(M:QD)(c:FT):Prop:=∀(af:AO)(s:Shared)(σ:St)(H:Hp)(Q:Bool->Hp->Prop),Inv X af σ H s->B1 X.K c σ H Q ->
 wq X (forIn M true λc r=>if r=true then do let ok <-isTrue c X.env (eval c X.env);pure (ForInStep.yield ok)else pure (ForInStep.yield r)) (TP X af σ Q) X.xe s
@[simp] noncomputable def pP:FT:=λ_=>some true
theorem Px:JC X [] pP:=by
 intro af s σ H Q I h;obtain⟨B,ρ,c,M,rep,e,q⟩:=h;cases e
 exact wpAny_tests_nil ⟨H,I,q H (.refl H)⟩
theorem Py (h:JT X e f):JC X [e] f:=λaf s σ H Q I q=>wpAny_tests_one (h _ s σ H Q I q)
inductive CI (Y:Cx)(tn:Nat->Heap->Prop)(fp:List Addr)(N1 H2:Hp)(κ:Env)(a:Addr)(l:List D->Option (List D))(items ds:List D)(s:Shared):Nat->Prop
 |mk (i:Nat) (N:Hp) (vs:List V) (es r:List D) (σ:St) (H:Hp) (I:Inv Y [] σ H s) (ti:tn i s.heap) (hn:∀b∈fp,H b=none) (hi:i<=items.length) (rp:dR Y.K N1 σ κ) (hl:κ.length=σ.length)
   (x:Ext N1 N H2 H) (n0:N a=none) (h0:H a=some (.lst vs)) (vl:vs.length<=i) (iv:IsL Y.K N vs es) (er:l (items.drop i)=some r) (ed:es++r=ds):CI Y tn fp N1 H2 κ a l items ds s (items.length - i)
theorem Ext.both (x:Ext N1 N H2 H)(y:Ext N1 N' H H'):Ext N (join N N') H H'/\aD N' (join N N'):=by
 refine⟨⟨y.hh,cS,λa o e=>?_,λa o e=>?_⟩,λa o e=>?_⟩
 .cases z:N a with
  |some M=>rw[cS _ _ z]at e;cases e;exact y.hh _ _ (x.nh _ _ z)
  |none=>rw[cO z]at e;exact y.nh _ _ e
 .cases z:N a with
  |some M=>rw[cS _ _ z]at e;simp_all
  |none=>
   rw[cO z]at e;exact(y.new a o e).elim (λO=>by rw[x.bn _ _ O]at z;cases z) .inr
 .exact(y.new a o e).elim (λz=>cS _ _ (x.bn _ _ z)) λz=>by rw[cO (x.nh.free z)];exact e
theorem Ext.off (x:Ext B N H H')(h:B a=none)(h':H a=some o):N a=none:=by
 cases z:N a with
 |none=>rfl
 |some u=>
  rcases x.new _ _ z with z|z
  .rw[h]at z;cases z
  simp_all
theorem DF {Y:Cx}(U:Y.calm=true)(hE:∀x s,¬Y.xe x s)(hg:PG Y tg g)(V6:Lz Y.K nT sn g)(hc:JC Y u8 fc)(he:JE Y xu fe)(T:Turn Y.prog Y.w Y.K tg J fp it tn)(V7:∀i,i<nT->κ[i]? = some none)
  (J1:lF Y.K J N1 items) (hsz:items.length<=sizeLine) (hD:H2 a=none) (Z:∀H',(∀b∈fp,H' b=none)->∀b∈fp,kU Y [] H' b)
  (hR:∀E O H' N vs,Inv Y [] O H' E->Ext N1 N H2 H'->N a=none->H' a=some (.lst vs)->IsL Y.K N vs ds->R (.ok .next) E) (h:CI Y tn fp N1 H2 κ a (fu sn fc fe κ) items ds s items.length):
  codeAny (model Y.prog Y.w) Y.A (.compLoop (.ListComp xu [⟨tg,dC,u8,0⟩] scope pos) 0 (.ref it) (.ref a) Y.env) R s:=by
 refine vj hE (λn s=>CI Y tn fp N1 H2 κ a (fu sn fc fe κ) items ds s n) (λn s' h=>?_) _ h;obtain⟨i,N,vs,es,r,O,H',I',ti,hn,hi,rp,jN,x,Yg,W1,Fc,V8,er,Q⟩:=h;have sH:aD N1 H':=x.bn.trans x.nh;by_cases oe:i<items.length
 .obtain⟨go,yl⟩:=(J1 i H' sH).1 items[i] (by simp[oe]);refine bJ (T.item Y rr rr rr U i [] s' O H' Y.xe I' (Z _ hn) ti go) λq E ⟨u,eu,hq⟩=>?_;subst eu;refine bJ hq λ_ s5 ⟨xv,F,I5,rx,y5,t5,XX⟩=>?_;obtain⟨j,x5,i5⟩:=yl xv F y5;obtain⟨x6,c5⟩:=x.both x5;have ZF:(join N j) a=none:=x6.off Yg W1;have S:aD (join N j) F:=x6.nh;rw[List.drop_eq_getElem_cons oe]at er;unfold fu at er;obtain⟨k,e1,er⟩:=oX er;obtain⟨b,e2,er⟩:=oX er;have dv:∀(G:Shared)(f:St)(l H:Hp)(I:LV)(V W:LD),Inv Y (pJ fp s5.heap) f l G->dR Y.K N1 f κ->κ.length=f.length->Ext N1 H H2 l->H a=none->l a=some (.lst I) ->
    I.length<=i+1->IsL Y.K H I V->fu sn fc fe κ (items.drop (i+1))=some W->V++W=ds->∃m,m<items.length - i/\CI Y tn fp N1 H2 κ a (fu sn fc fe κ) items ds G m:=λG f l H I V W t rp9 l9 x9 n9 h9 v9 i9 er9 ed9=>
   ⟨_,N9,i+1,H,I,V,W,f,l,t.pins_of λp hp=>by simp at hp,T.keep _ _ _ t5 λb hb o e=>(t.pin (b,o) (mY _ (iC hb e))).1,λb hb=>by
    obtain⟨o,e,d⟩:=T.obj _ _ t5 b hb;exact(t.pin (b,o) (mY _ (iC hb e))).2.1,oe,rp9,l9,x9,n9,h9,v9,i9,er9,ed9⟩
  refine bJ (hg (pJ fp s5.heap) s5 O F xv u (λM L=>L=F/\dR Y.K (join N j) M k/\dR Y.K N1 M κ/\κ.length=M.length) (I5.pinned (Z _ XX) (T.obj _ _ t5)) rx
   (V6 (join N j) F O κ k xv items[i] _ V7 (rp.mono (x.bn.trans cS)) S (i5.mono c5) e1 jN λσ1 r1 r2 l1=>⟨rr,r1,r2 N1 rp,l1⟩)) λ_ s6 ⟨M,L,I6,eH,ZG,ZH,l6⟩=>?_
  subst eH;have Yh:L a=some (.lst vs):=x5.hh _ _ W1;refine bJ (hc _ s6 M L (λc z=>c=b/\aD L z) I6 ⟨join N j,k,b,S,ZG,e2,λz B=>⟨rr,B⟩⟩) λok s7 ⟨z,I7,eb,B⟩=>?_;subst eb;have x7:Ext N1 (join N j) H2 z:=(x.trans x6).trans (.grow S B);cases ok with
  |false=>
   exact dv s7 M z (join N j) vs es r I7 ZH l6 x7 ZF (B _ _ Yh) (Nat.le_succ_of_le Fc) (V8.mono cS) er Q
  |true=>
   rw[if_pos rr]at er |-;obtain⟨y,e3,er⟩:=oX er;obtain⟨r',e4,er⟩:=oY er;subst er;refine bJ (he _ s7 M z (λv P=>∃C,Ext (join N j) C z P/\Is Y.K C v y.1) I7 ⟨join N j,k,y.1,y.2,S.trans B,ZG,e3,λv P C D i8 _=>⟨C,D,i8⟩⟩) λw8 s8 ⟨X,P,I8,r8,C,D,i8⟩=>?_;refine bJ (tj _ s8 M P (.ref a) [X] (.ref a) [w8] (λ_ l=>l=upd P a (.lst (vs++[X]))) I8 rr (.cons r8 .nil) ⟨_,vs,X,rr,rr,D.hh _ _ (B _ _ Yh),N9,rr⟩) λ_ G ⟨_,l,t,_,e9⟩=>?_;subst e9;have ZI:=D.off ZF (B _ _ Yh);exact dv G M _ C (vs++[X]) (es++[y.1]) r' t ZH l6 ((x7.trans D).upd hD ZI) ZI aq (by simp_all) ((V8.mono (cS.trans D.bn)).append (.cons i8 .nil)) e4 (by rw[append_assoc];exact Q)
 .obtain rfl:i=items.length:=N9
  rw[List.drop_eq_nil_of_le (vT _)]at er;cases er
  rw[uP]at Q;subst Q;refine bJ (T.done Y rr rr rr U items.length [] s' O H' Y.xe I' (Z _ hn) ti ((J1 _ H' sH).2 (vT _))) λq E ⟨hq,t⟩=>?_;subst hq;exact hR E O H' N vs t x Yg W1 V8
theorem pQ {X:Cx}(VB:X.calm=true){tg dC R:Expr}{V:QD}{scope:Scope}{I:Pos}{cl:List (Str×Addr)}{N':LS}{nT:Nat}{cap:LN}{sn:FG}{g:TG}{fc:FT}{fe:FE}
  (S:CompSc X scope cl) (cp:ly X N' scope cl nT cap)
  (hg:∀C s H fp,PG (gG X N' scope cl C s H fp) tg g) (V6:Lz X.K nT sn g) (hc:∀C s H fp,JC (gG X N' scope cl C s H fp) V fc) (he:∀C s H fp,JE (gG X N' scope cl C s H fp) R fe)
  {af:AO}{σ:St}{H2:Hp}{s2:Shared}{it:Addr}{fp:List Addr}{tn:Nat->Heap->Prop}{J:It}{N1:Hp}{ρ:Env}{items ds:LD}{E:QV}
  (f:Inv X af σ H2 s2) (T:Turn X.prog X.w X.K tg J fp it tn) (W:tn 0 s2.heap) (f2:∀b∈fp,kU X af H2 b)
  (rep:dR X.K N1 σ ρ) (Z:aD N1 H2) (J1:lF X.K J N1 items) (hsz:items.length<=sizeLine) (ec:fu sn fc fe (cm nT cap ρ) items=some ds) {RR:Value->Addr->Result->Shared->Prop}
  (hRR:∀(Dd C:Addr)(s':Shared)(H' N:Hp)(vs:LV)(m:SV),H2 Dd=none->Inv X af σ H' s'->s'.heap.Ns C m->kU X af H' C->Ext N1 N H2 H'->N Dd=some (.lst vs)->IsL X.K N vs ds->RR (.ref Dd) C (.ok .next) s'):
  wq X (newList []) (λacc d=>wq X (newFunctionEnv scope X.env.globals cl [] X.env.qual none .none (some X.env)) (λVC L=>
   codeAny (model X.prog X.w) X.A (.compStart (.ListComp R [⟨tg,dC,V,0⟩] scope I) 0 (.ref it) acc { VC with scope:=relabel scope X.env }) (RR acc VC.locals) L) E d) E s2:=by
 refine wpAny_newObj_type (wpAny_newFunctionEnv S.nocell (by intro y hy;simp at hy) (λn O U=>?_) S.kind);dsimp only at O U |-;have F:H2 s2.z=none:=f.fresh;have t:=f.lnew (t':=s2.toks) (ys:=[]) (its:=[]) .nil (uM _);generalize P:s2.heap.push _=B at O U t |-;have hC:B.objs.size=s2.z+1:=by rw[<-P,Heap.size_push]
 have Q:∀b o,s2.heap.get? b=some o->B.get? b=some o:=λb o e=>P ▸ vZ _ e;have M:∀b o,B.get? b=some o->n.get? b=some o:=λb o e=>U.extBut b o (vS (vX e)) (vZ _ e);have SE:∀b o,B.get? b=some o->b≠B.objs.size:=λb o e=>vS (vX e);have ZJ:∀b∈fp,∃o,s2.heap.get? b=some o:=λb hb=>let ⟨o,e,_⟩:=T.obj 0 s2.heap W b hb;⟨o,e⟩;have fpD:∀b∈fp,b≠s2.z:=λb hb=>let ⟨o,e⟩:=ZJ b hb;vS (vX e);have ZK:∀b∈fp,b≠B.objs.size:=λb hb=>let ⟨o,e⟩:=ZJ b hb;SE b o (Q b o e);have hHC:=t.hok.fresh (vT _);let Y:Cx:=gG X N' scope cl B.objs.size { s2 with heap:=B } (upd H2 s2.z (.lst [])) fp;have ok:Y.Ok:=by
  refine⟨f.ok.mod,?_,f.ok.glob,f.ok.blt,vT _,λx y c e1 e2=>f.ok.inj x y c (S.sub x c e1) (S.sub y c e2),λx h=>S.has x h,λx c h=>absurd h uW,f.ok.hd,f.ok.frames,.inl rr,λb hb=>⟨ZK b hb,λx c e=>(f2 b hb).2.2.2.2.1 x c (S.sub x c e)⟩,λb o e=>?_,?_,λb o e hb=>?_,λb hb hz=>?_,t.stack,λb hb=>t.stkFree b hb⟩
  .show(relabel scope X.env).kind=.function;exact S.kind
  .exact t.bs b o e
  .exact vR t.ok.bsz t.sz
  .have h1:=(f2 b hb).2.2.2.1;rcases h1 with z|z
   .exact f.ok.noex b o e z
   .exact absurd (vQ (vX e) (vR f.ok.bsz z)) (Nat.lt_irrefl _)
  .rcases vP (f.stkSub b hz)with z|z
   .exact(f2 b hb).2.1 z
   .exact(f2 b hb).2.2.1 z
 have I4:Inv Y [] (xK nT cap σ) (upd H2 s2.z (.lst [])) { s2 with heap:=n,toks:=s2.toks+([]:List (Str×Value)).length }:=by
  refine⟨ok,rr,f.bare,Un.kept M,⟨_,O,λj x v e1 e2 e3=>?_⟩,λx c e=>?_,hHC,λx c e=>t.freeC x c (S.sub x c e),λp hp=>absurd (show p∈[]from hp) not_mem_nil,t.hok.kept M,?_⟩
  .obtain⟨k,i,rfl,h1,h2⟩:=vk e2;obtain⟨y,g1,g2,g3',g4,g5⟩:=cp.get h1;have ZL:N'[nT+k]? = some x:=e1;rw[g1]at ZL;cases ZL;have V5:σ[i]? = some (some v):=by
    cases q:σ[i]? with
    |none=>rw[q]at h2;cases h2
    |some z=>rw[q]at h2;have:z=some v:=h2;rw[this]
   obtain⟨m,_,hl⟩:=t.loc;obtain⟨u,r,l⟩:=hl i _ v g2 V5 (g3'.elim (λz=>.inr (.inl z)) λz=>.inr (.inr z));refine⟨u,r,?_⟩;rcases l with⟨l,_⟩|⟨_,c,lc,ic⟩
   .simp_all
   .refine .inr ⟨g4,c,by show cl.lookup _=some c;simp_all,?_⟩;obtain⟨o,ho,hd⟩:=ic;exact⟨o,M _ _ ho,hd⟩
  .obtain⟨v,o,ho,hd⟩:=t.cell x c (S.sub x c e);exact⟨v,o,M _ _ ho,hd⟩
  .show(xK nT cap σ).length=N'.length;unfold xK;rw[cp.len];simp
 have D:∀d:Shared,d={ s2 with heap:=n,toks:=s2.toks+([]:List (Str×Value)).length }->codeAny (model Y.prog Y.w) Y.A (.compLoop (.ListComp R [⟨tg,dC,V,0⟩] scope I) 0 (.ref it) (.ref s2.z) Y.env) (RR (.ref s2.z) B.objs.size) d:=by
  rintro d rfl;refine DF (Y:=Y) VB (λ_ _ z=>z) (hg _ _ _ _) V6 (hc _ _ _ _) (he _ _ _ _) T (λi hi=>?_) J1 hsz F (λH' hn b hb=>⟨hn b hb,ZK b hb,ok.exfs b hb,.inl hb,λx c e=>(f2 b hb).2.2.2.2.1 x c (S.sub x c e),λp hp=>absurd (show p∈[]from hp) not_mem_nil⟩) (λs4 σ' H' N vs G x Yg W1 V8=>?_)
   ⟨0,N1,[],[],ds,xK nT cap σ,_,I4,T.keep _ _ _ W λb hb o e=>M _ _ (Q _ _ e),λb hb=>?_,uM _,rep.caps,?_,(Ext.refl Z).upd F (Z.free F),Z.free F,aq,uM _,.nil,by simpa using ec,rr⟩
  .simp_all[cm,getElem?_append_left]
  .obtain⟨m,hm,_⟩:=G.loc;have k:aD N (upd N s2.z (.lst vs)):=λa o e=>by grind[a6]
   refine hRR s2.z B.objs.size s4 H' (upd N s2.z (.lst vs)) vs m F (f.call' (ch:=fp) G.os ((Un.laid Q (vT _) F).trans G.base) G.hok G.bare λb hb=>⟨(f2 b hb).2.2.2.1,(f2 b hb).2.1,(f2 b hb).2.2.2.2.1,(f2 b hb).2.2.2.2.2⟩) hm (f.fpOk (by rw[hC];exact le_succ _) G.free) ⟨x.hh,x.bn.trans k,λa o e=>?_,λa o e=>?_⟩ aq (V8.mono k)
   .by_cases z:a=s2.z
    .simp_all[aq]
    .rw[a6 z]at e;exact x.nh _ _ e
   .by_cases z:a=s2.z
    .subst z;exact .inr F
    .rw[a6 z]at e;exact x.new _ _ e
  .rw[a6 (fpD b hb)];exact(f2 b hb).1
  .unfold cm xK;simp
 exact codeAny_compStart_list (D _ rr) (T.self _ 0 _ _ _ (T.keep _ _ _ W λb hb o e=>M _ _ (Q _ _ e)) (D _ rr))
theorem L0 (M:X.calm=true)
  (S:CompSc X scope cl) (cp:ly X N' scope cl nT cap) (hi:JI X tg dC fi)
  (i:∀C s H fp,PG (gG X N' scope cl C s H fp) tg g) (U:Lz X.K nT sn g) (hc:∀C s H fp,JC (gG X N' scope cl C s H fp) u8 fc) (he:∀C s H fp,JE (gG X N' scope cl C s H fp) xu fe)
  (hs:∀x,foldedSetIterable dC X.env x=pure x:=by intro _;rfl):
  JE X (.ListComp xu [⟨tg,dC,u8,0⟩] scope pos) (fw fi nT cap sn fc fe):=by
 intro af s σ H Q I h;obtain⟨B,ρ,d,b,j,rep,e,q⟩:=h;obtain⟨items,ei,e⟩:=oX e;have hsz:=Decidable.byContradiction λz=>by rw[if_neg z]at e;cases e
 rw[if_pos hsz]at e;obtain⟨ds,k,e⟩:=oY e;cases e
 refine wpAny_comprehension_free rr hs S.clos S.kind S.names (bJ (hi _ s σ H (λJ H2=>∃N1,Ext B N1 H H2/\lF X.K J N1 _) I ⟨B,ρ,items,j,rep,ei,λJ H2 N1 O a=>⟨N1,O,a⟩⟩) λv s1 h1=>bJ h1 λA s2 h2=>?_);obtain⟨it,fp,tn,J,H2,e,l,T,n,f2,N1,O,a⟩:=h2;subst e;refine pQ M S cp i U hc he l T n f2 (rep.mono O.bn) O.nh a hsz k ?_;intro Dd C s' H' N vs m p r hm fC x f hl;refine⟨m,hm,λh' c=>⟨.ref Dd,H',?_,rr,q _ H' N (O.trans x) (.lst (dW.of f) hl) λ_=>⟨Dd,vs,ds,rr,rr,O.hh.free p,f,hl⟩⟩⟩;obtain⟨t,u,c2,c3,w,y⟩:=fC;exact r.turned (λb o hb e=>(c.2 b hb).trans e) t u c3 w y
theorem L1 (M:X.calm=true)
  (l:X.N.Nodup) (n:X.N[i]? = some y) (hy:X.env.kindOf y=some .local)
  (p:swapsWith (.ListComp xu [⟨tg,dC,u8,0⟩] scope pos) (some (.Name y py)) spos.line X.env=pure true)
  (S:CompSc X scope cl) (cp:ly X N' scope cl nT cap) (hi:JI X tg dC fi)
  (t:∀C s H fp,PG (gG X N' scope cl C s H fp) tg g) (u:Lz X.K nT sn g) (hc:∀C s H fp,JC (gG X N' scope cl C s H fp) u8 fc) (he:∀C s H fp,JE (gG X N' scope cl C s H fp) xu fe)
  (hs:∀x,foldedSetIterable dC X.env x=pure x:=by intro _;rfl):
  JS X (.Assign [.Name y py] (.ListComp xu [⟨tg,dC,u8,0⟩] scope pos) spos) (cP i (fw fi nT cap sn fc fe)):=by
 intro af s σ H E I h;have h2:=B4 h;obtain⟨B,ρ,d,b,A,rep,e,q⟩:=h2;obtain⟨items,ei,e⟩:=oX e;have hsz:=Decidable.byContradiction λz=>by rw[if_neg z]at e;cases e
 rw[if_pos hsz]at e;obtain⟨ds,D,e⟩:=oY e;cases e
 rw[exec_Assign_Name_used _ _ _ _ p];refine wX (wpAny_standAt (wX ?_));refine wX (wpAny_mono (wpAny_comprehension_free rr hs S.clos S.kind S.names
  (bJ (hi af s σ H (λJ H2=>∃N1,Ext B N1 H H2/\lF X.K J N1 items) I ⟨B,ρ,items,A,rep,ei,λJ H2 N1 O c=>⟨N1,O,c⟩⟩) λv s1 h1=>bJ h1 λZB s2 h2=>?_)) (λ_ s' hq=>wY (wY hq)) λ_ _ e=>e)
 obtain⟨it,fp,tn,J,H2,e,F,T,G,f2,N1,O,c⟩:=h2;subst e;refine pQ M S cp t u hc he F T G f2 (rep.mono O.bn) O.nh c hsz D ?_;intro Dd C s' H' N vs m L P hm fC x U hl;obtain⟨Q,j,c2,c3,k,R⟩:=fC;refine wpAny_assign_Name (sR P l n (.inl hy) (r:=show aG (.ref Dd) (.ref Dd)from rr) (λV W ⟨a,Y,ha⟩=>?_) (.inr hy));have Z:C≠a:=by
  rcases ha with z|z
  .rw[z];exact j
  .exact λw=>k y a z w.symm
 refine⟨m,hm.sameBut Y Z,λh' f=>⟨_,H',?_,q _ H' N (O.trans x) (.lst (dW.of U) hl) λ_=>⟨Dd,vs,ds,rr,rr,O.hh.free L,U,hl⟩⟩⟩;exact W.turned (t':=V.toks) (λb o hb e=>(f.2 b hb).trans e) Q j c3 k R
section
variable {X:Cx}{a b c e:Expr}{pos:Pos}
theorem PE.to (h:PE X e t)(k:∀σ H Q,t' σ H Q->t σ H Q):PE X e t':=λaf s σ H Q I q=>h _ s σ H Q I (k σ H Q q)
theorem PT.to (h:PT X e t)(k:∀σ H Q,t' σ H Q->t σ H Q):PT X e t':=λaf s σ H Q I q=>h _ s σ H Q I (k σ H Q q)
theorem PW.to (h:PW X e t)(k:∀σ H Q,t' σ H Q->t σ H Q):PW X e t':=λwh af s σ H Q I q=>h wh _ s σ H Q I (k σ H Q q)
theorem PA.to (h:PA X es t)(k:∀σ H Q,t' σ H Q->t σ H Q):PA X es t':=λpos af s σ H Q I q=>h _ _ s σ H Q I (k σ H Q q)
theorem PS.to {st:Stmt}{t t':TS}(h:PS X st t)(k:∀E σ H,t' E σ H->t E σ H):PS X st t':=λaf s σ H E I q=>h _ s σ H E I (k E σ H q)
theorem sU.to {st:List Stmt}{t t':TS}(h:sU X st t)(k:∀E σ H,t' E σ H->t E σ H):sU X st t':=λaf s σ H E I q=>h _ s σ H E I (k E σ H q)
theorem PI.to (h:PI X tg it t)(k:∀σ H Q,t' σ H Q->t σ H Q):PI X tg it t':=λaf s σ H Q I q=>h _ s σ H Q I (k σ H Q q)
theorem DG {K:Frag}{d:D}{v:V}(i:∀B,Is K B v d){σ:St}{H:Hp}{Q:VK}(h:tD K (fC d) σ H Q):tC v σ H Q:=by
 obtain⟨B,ρ,d',b,s,r,e,q⟩:=h;cases e
 exact q.one s (i B)
theorem Pz (i:Nat)(O:X.N[i]? = some x)(hv:Fg X.env.scope x)(hd:(x == ("__debug__" : Str))=false)
  (M:(x == ("__classdict__" : Str))=false):JE X (.Name x pos) (am i):=PE.to (iB O hv hd M) λ_ _ _ h=>Ps h
theorem P0:JE X (.Constant (.int i) j pos) (fC (.int i)):=PE.to OC λ_ _ _ h=>DG (λ_=>.int i) h
theorem TN:JE X (.Constant (.bool i) j pos) (fC (.bl i)):=PE.to SS λ_ _ _ h=>DG (λ_=>.bl i) h
theorem P1:JE X (.Constant .none j pos) (fC .non):=PE.to OD λ_ _ _ h=>DG (λ_=>.non) h
theorem P2:JE X (.Constant (.str x) j pos) (fC (.str x)):=PE.to OE λ_ _ _ h=>DG (λ_=>.str x) h
theorem L3 (M:Gl X x)(hm:X.mg x=some u)(r:aG v u)(i:∀B,Is X.K B v d)(hd:(x == ("__debug__" : Str))=false:=by decide):JE X (.Name x pos) (fC d):=PE.to (pw M hm r hd) λ_ _ _ h=>DG i h
theorem TQ (ho:cj X (binaryOp op) (rD X.K f))(ha:JE X a fa)(hb:JE X b M):JE X (.BinOp a op b pos) (f2 f fa M):=PE.to (Tp ho ha hb) λ_ _ _ h=>Lp h
theorem TR (ho:To X (unaryOp op) (Xk X.K f))(ha:JE X a fa):JE X (.UnaryOp op a pos) (f1 f fa):=PE.to (Tr ho ha) λ_ _ _ h=>Xl h
theorem P4 (ho:cj X (compareOp op) (rD X.K f))(ha:JE X a fa)(hb:JE X b M)(hm:behindInMarks op b=false):JE X (.Compare a [op] [b] pos) (f2 f fa M):=PE.to (La ho ha hb hm) λ_ _ _ h=>Lp h
theorem vn {K:Frag}{f:FE}{σ:St}{H:Hp}{Q:Bool->Hp->Prop}(h:B1 K (bD f) σ H Q):tD K f σ H λx H'=>∃k,x=.bl k/\Q k H':=by
 obtain⟨B,ρ,c,s,r,e,q⟩:=h;unfold bD at e;split at e
 .rename_i O b' M;cases e
  refine⟨B,ρ,.bl c,b',s,r,M,λv H' N x i _=>?_⟩;cases i
  exact⟨c,rr,q H' x.hh⟩
 simp_all
theorem P5 (ho:cj X (compareOp op) (rD X.K f))(ha:JE X a fa)(hb:JE X b M)(hm:behindInMarks op b=false):JT X (.Compare a [op] [b] pos) (bD (f2 f fa M)):=
 PT.to (Bp ho ha hb hm) λ_ _ _ h=>Lp (vn h)
theorem P6 (h:JE X e f)(he:∀M,isTrue e X.env M=(do let v <-M;standAt e.pos;holding [v] (truthy v))):JT X e (bD f):=PT.to (OG h he) λ_ _ _ q=>vn q
@[simp] noncomputable def jp (f g:D->D->OB)(fa M O:FE):FE:=λρ=>(fa ρ).bind λx=>(M ρ).bind λy=>match f x.1 y.1 with
 |some (.bl true,_)=>(O ρ).bind λz=>g y.1 z.1
 |some (.bl false,_)=>some (.bl false,false)
 |_=>none
theorem xL {K:Frag}{f g:D->D->OB}{fa l m:FE}{σ:St}{H:Hp}{Q:VK}(h:tD K (jp f g fa l m) σ H Q):zU (rD K f) (rD K g) (tD K fa) (tD K l) (tD K m) σ H Q:=by
 obtain⟨B,ρ,d,b,s,r,e,q⟩:=h;obtain⟨x,ex,e⟩:=oX e;obtain⟨y,o,e⟩:=oX e;refine⟨B,ρ,x.1,x.2,s,r,ex,λv C N1 U i1 _=>⟨N1,ρ,y.1,y.2,U.nh,r.mono U.bn,o,λE H2 N2 M i2 _=>?_⟩⟩;split at e
 .rename_i b' i;obtain⟨z,p,e⟩:=oX e;refine⟨N2,x.1,y.1,.bl _,b',M.nh,i1.mono M.bn,i2,i,λt u n O j _=>?_⟩;cases j
  refine⟨true,rr,?_⟩;refine⟨n,ρ,z.1,z.2,O.nh,r.mono (U.bn.trans (M.bn.trans O.bn)),p,λF G w k A _=>⟨w,y.1,z.1,d,b,k.nh,i2.mono (O.bn.trans k.bn),A,e,?_⟩⟩;exact q.into ((U.trans M).trans (O.trans k))
 .rename_i b' i;cases e
  refine⟨N2,x.1,y.1,.bl _,b',M.nh,i1.mono M.bn,i2,i,λt u n O j _=>?_⟩;cases j
  refine⟨false,rr,?_⟩;exact(q.into ((U.trans M).trans O)).one O.nh (.bl _)
 simp_all
theorem FQ (ho:cj X (compareOp op) (rD X.K f))(M:cj X (compareOp O) (rD X.K g))(ha:JE X a fa)(hb:JE X b U)(hc:JE X c fc)
  (hm:lastMarks [op,O] [b,c]=false):JE X (.Compare a [op,O] [b,c] pos) (jp f g fa U fc):=PE.to (Ft ho M ha hb hc hm) λ_ _ _ h=>xL h
theorem FR (ho:cj X (compareOp op) (rD X.K f))(M:cj X (compareOp O) (rD X.K g))(ha:JE X a fa)(hb:JE X b U)(hc:JE X c fc)
  (hm:lastMarks [op,O] [b,c]=false):JT X (.Compare a [op,O] [b,c] pos) (bD (jp f g fa U fc)):=PT.to (Fu ho M ha hb hc hm) λ_ _ _ h=>xL (vn h)
theorem L4 {K:Frag}{f g:FT}{σ:St}{H:Hp}{Q:Bool->Hp->Prop}(h:B1 K (ft f g) σ H Q):SU (B1 K f) (B1 K g) σ H Q:=by
 obtain⟨B,ρ,c,s,r,e,q⟩:=h;unfold ft at e;cases M:f ρ with
 |none=>rw[M]at e;cases e
 |some k=>
  rw[M]at e;refine⟨B,ρ,k,s,r,M,λO h1=>?_⟩;cases k with
  |true=>exact⟨B,ρ,c,s.trans h1,r,e,λH2 h2=>q H2 (h1.trans h2)⟩
  |false=>simp_all
theorem P7 {K:Frag}{f g:FT}{σ:St}{H:Hp}{Q:Bool->Hp->Prop}(h:B1 K (iD f g) σ H Q):Za (B1 K f) (B1 K g) σ H Q:=by
 obtain⟨B,ρ,c,s,r,e,q⟩:=h;unfold iD at e;cases M:f ρ with
 |none=>rw[M]at e;cases e
 |some k=>
  rw[M]at e;refine⟨B,ρ,k,s,r,M,λO h1=>?_⟩;cases k with
  |false=>exact⟨B,ρ,c,s.trans h1,r,e,λH2 h2=>q H2 (h1.trans h2)⟩
  |true=>simp_all
theorem L5 {K:Frag}{f:FT}{σ:St}{H:Hp}{Q:Bool->Hp->Prop}(h:B1 K (jm f) σ H Q):SW (B1 K f) σ H Q:=by
 obtain⟨B,ρ,c,s,r,e,q⟩:=h;obtain⟨k,ek,e⟩:=oY e;subst e;exact⟨B,ρ,k,s,r,ek,λM h1=>q M h1⟩
variable {ag:QD}
theorem L6 (ha:JT X a f):JW X (.BoolOp .And [a] pos) f:=KQ ha
theorem P8 (ha:JT X a f):JW X (.BoolOp .Or [a] pos) f:=OH ha
theorem P9 (ha:JT X a f)(hb:JW X (.BoolOp .And (b::ag) pos) g):JW X (.BoolOp .And (a::b::ag) pos) (ft f g):=PW.to (OJ ha hb) λ_ _ _ h=>L4 h
theorem TU (ha:JT X a f)(hb:JW X (.BoolOp .Or (b::ag) pos) g):JW X (.BoolOp .Or (a::b::ag) pos) (iD f g):=PW.to (SX ha hb) λ_ _ _ h=>P7 h
theorem Xm (h:JW X e f):JT X e f:=h.pt
theorem PB (ha:JT X a f):JT X (.UnaryOp .Not a pos) (jm f):=PT.to (OK ha) λ_ _ _ h=>L5 h
@[simp] noncomputable def FU (f g:FE):FE:=λρ=>match f ρ with|some (.bl true,_)=>g ρ|some (.bl false,_)=>some (.bl false,false)|_=>none
@[simp] noncomputable def TV (f g:FE):FE:=λρ=>match f ρ with|some (.bl true,_)=>some (.bl true,false)|some (.bl false,_)=>g ρ|_=>none
@[simp] noncomputable def FV (f:FE):FE:=λρ=>match f ρ with|some (.bl c,_)=>some (.bl (!c),false)|_=>none
theorem PD (ha:JE X a f)(hb:JE X (.BoolOp .And (b::ag) pos) g):JE X (.BoolOp .And (a::b::ag) pos) (FU f g):=PE.to (OM ha hb) λσ H Q h=>by
 obtain⟨B,ρ,d,k,s,r,e,q⟩:=h;unfold FU at e;split at e
 .rename_i b' O;refine⟨B,ρ,_,_,s,r,O,λv U N1 M i1 _=>?_⟩;cases i1
  refine⟨true,rr,?_⟩;exact⟨N1,ρ,d,k,M.nh,r.mono M.bn,e,q.into M⟩
 .rename_i b' O;cases e
  refine⟨B,ρ,_,_,s,r,O,λv U N1 M i1 _=>?_⟩;cases i1
  refine⟨false,rr,?_⟩;exact(q.into M).one M.nh (.bl _)
 simp_all
theorem TW (ha:JE X a f)(hb:JE X (.BoolOp .Or (b::ag) pos) g):JE X (.BoolOp .Or (a::b::ag) pos) (TV f g):=PE.to (Tc ha hb) λσ H Q h=>by
 obtain⟨B,ρ,d,k,s,r,e,q⟩:=h;unfold TV at e;split at e
 .rename_i b' O;cases e
  refine⟨B,ρ,_,_,s,r,O,λv U N1 M i1 _=>?_⟩;cases i1
  refine⟨true,rr,?_⟩;exact(q.into M).one M.nh (.bl _)
 .rename_i b' O;refine⟨B,ρ,_,_,s,r,O,λv U N1 M i1 _=>?_⟩;cases i1
  refine⟨false,rr,?_⟩;exact⟨N1,ρ,d,k,M.nh,r.mono M.bn,e,q.into M⟩
 simp_all
theorem PF (h:JE X a f):JE X (.BoolOp op [a] pos) f:=OL h
theorem PH (ha:JE X a f):JE X (.UnaryOp .Not a pos) (FV f):=PE.to (ON ha) λσ H Q h=>by
 obtain⟨B,ρ,d,k,s,r,e,q⟩:=h;unfold FV at e;split at e
 .rename_i c b' O;cases e
  refine⟨B,ρ,_,_,s,r,O,λv U N1 M i1 _=>?_⟩;cases i1
  exact⟨c,rr,(q.into M).one M.nh (.bl _)⟩
 simp_all
variable {es:QD}
theorem mS:JA X [] av:=PA.to dX λ_ _ _ h=>Lr h
theorem gB (ha:JE X e f)(hr:JA X es g)(hs:starEach (e::es) X.env=(false,eval e X.env)::starEach es X.env:=by rfl):JA X (e::es) (ao f g):=PA.to (cF ha hr hs) λ_ _ _ h=>FH h
@[simp] noncomputable def cn:LD->OB:=λds=>if ds.length<=sizeLine then some (.tup ds,false)else none
@[simp] noncomputable def fy:LD->OB:=λds=>if ds.length<=sizeLine then some (.lst ds,true)else none
theorem PJ {M}(h:JA X es f):JE X (.Tuple es M pos) (fA cn f):=PE.to (uE h) λσ H Q q=>by
 obtain⟨B,ρ,ds,s,r,e,k⟩:=Lq q;refine⟨B,ρ,ds,s,r,e,λvs O N1 M i1=>?_⟩;obtain⟨g,U,d,b,s2,i2,e2,k2⟩:=k vs O N1 M i1;unfold cn at e2;split at e2
 .rename_i hz;cases e2
  refine⟨by rw[i2.length];exact hz,λp hp=>k2 _ _ _ (.laid s2 hp) (.tup (fL.of aq) (i2.mono (Ext.laid s2 hp).bn)) V9⟩
 simp_all
theorem PK (h:JA X es f):JE X (.List es pos) (fA fy f):=PE.to (Pe h) λσ H Q q=>by
 obtain⟨B,ρ,ds,s,r,e,k⟩:=Lq q;refine⟨B,ρ,ds,s,r,e,λvs O N1 U i1=>?_⟩;obtain⟨g,M,d,b,s2,i2,e2,k2⟩:=k vs O N1 U i1;unfold fy at e2;split at e2
 .rename_i hz;cases e2
  refine⟨by rw[i2.length];exact hz,λp hp=>k2 _ _ _ (.laid s2 hp) (.lst (dW.of aq) (i2.mono (Ext.laid s2 hp).bn)) λ_=>⟨p,vs,M,rr,rr,hp,aq,i2.mono (Ext.laid s2 hp).bn⟩⟩
 simp_all
end
section
variable {X:Cx}
theorem gH (h:cj X f r)(k:∀x y H Q,U x y H Q->r x y H Q):cj X f U:=λaf s σ H x y v u Q I M O q=>h _ s σ H x y v u Q I M O (k x y H Q q)
noncomputable def PL (f g:D->D->OB):D->D->OB:=λx y=>match f x y with|some r=>some r|none=>g x y
theorem kW (h:cj X s (rD X.K f))(h':cj X s (rD X.K g)):cj X s (rD X.K (PL f g)):=by
 intro af st σ H x y v u Q I M O q;obtain⟨B,dx,dy,d,b,U,a,c,e,q⟩:=q;unfold PL at e;split at e
 .rename_i r i;cases e
  exact h _ st σ H x y v u Q I M O ⟨B,dx,dy,_,_,U,a,c,i,q⟩
 .exact h' _ st σ H x y v u Q I M O ⟨B,dx,dy,_,_,U,a,c,e,q⟩
@[simp] noncomputable def Ah (C:Int->Int->Bool)(g:Int->Int->D):D->D->OB
 |.int i,.int j=>if C i j=true then some (g i j,false)else none
 |_,_=>none
theorem lI (h:cj X s (rI C g))(M:∀i j,C' i j=true->C i j)(O:∀i j B,Is X.K B (g i j) (g' i j)):cj X s (rD X.K (Ah C' g')):=by
 refine gH h λx y H Q q=>?_;obtain⟨B,dx,dy,d,b,U,a,c,e,q⟩:=q;cases a<;>try (cases e)
 cases c<;>try (cases e)
 rename_i i j;simp only[Ah]at e;split at e
 .rename_i hc;cases e
  exact⟨i,j,rr,rr,M i j hc,q.one U (O i j B)⟩
 simp_all
theorem fP (h:cj X s (K7 g))(M:∀i j B,Is X.K B (g i j) (g' i j)):cj X s (rD X.K (Ah (λ_ _=>true) g')):=by
 refine gH h λx y H Q q=>?_;obtain⟨B,dx,dy,d,b,O,U,a,e,q⟩:=q;cases U<;>try (cases e)
 cases a<;>try (cases e;done)
 rename_i i j;cases e
 exact⟨i,j,rr,rr,q.one O (M i j B)⟩
abbrev Xn:D->D->OB:=Ah (λ_ _=>true) λi j=>.int (i+j)
abbrev TX:D->D->OB:=Ah (λ_ _=>true) λi j=>.int (i - j)
abbrev TY:D->D->OB:=Ah (λi j=>decide ((-18446744073709551616<i/\i<18446744073709551616)\/(-18446744073709551616<j/\j<18446744073709551616))) λi j=>.int (i*j)
abbrev fg:D->D->OB:=Ah (λ_ j=>decide (0<j/\j<1073741824)) λi j=>.int (i / j)
abbrev dD:D->D->OB:=Ah (λ_ j=>decide (0<j)) λi j=>.int (i % j)
abbrev TZ:D->D->OB:=Ah (λi j=>decide (0<=j/\j<=1000000/\i.natAbs<18446744073709551616)) λi j=>.int (i ^ j.toNat)
abbrev Xo:D->D->OB:=Ah (λ_ _=>true) λi j=>.int (Builtin.bitAnd i j)
abbrev Zk:D->D->OB:=Ah (λ_ _=>true) λi j=>.bl (decide (i<j))
abbrev iLe:D->D->OB:=Ah (λ_ _=>true) λi j=>.bl (decide (i<=j))
abbrev Ss:D->D->OB:=Ah (λ_ _=>true) λi j=>.bl (decide (j<i))
abbrev Zl:D->D->OB:=Ah (λ_ _=>true) λi j=>.bl (decide (j<=i))
theorem Ua:cj X (binaryOp .Add) (rD X.K Xn):=fP OV λ_ _ _=>.int _
theorem Ub:cj X (binaryOp .Sub) (rD X.K TX):=fP OW λ_ _ _=>.int _
theorem Uc:cj X (binaryOp .Mult) (rD X.K TY):=lI OX (λi j h=>by simp_all[KY]) λ_ _ _=>.int _
theorem PM:cj X (binaryOp .FloorDiv) (rD X.K fg):=lI KZ (λi j h=>by simp_all[Tt]) λ_ _ _=>.int _
theorem Ud:cj X (binaryOp .Mod) (rD X.K dD):=lI OY (λ_ _ h=>ET h) λ_ _ _=>.int _
theorem Ue:cj X (binaryOp .Pow) (rD X.K TZ):=lI OZ (λi j h=>by simp_all[Tu]) λ_ _ _=>.int _
theorem Uf:cj X (binaryOp .BitAnd) (rD X.K Xo):=fP Pa λ_ _ _=>.int _
theorem Xp:cj X (compareOp .Lt) (rD X.K Zk):=fP Tv λ_ _ _=>.bl _
theorem Xq:cj X (compareOp .LtE) (rD X.K iLe):=fP Tw λ_ _ _=>.bl _
theorem Xr:cj X (compareOp .Gt) (rD X.K Ss):=fP Tz λ_ _ _=>.bl _
theorem Xs:cj X (compareOp .GtE) (rD X.K Zl):=fP T1 λ_ _ _=>.bl _
@[simp] noncomputable def Xt (C:Str->Str->Bool)(g:Str->Str->D):D->D->OB
 |.str i,.str j=>if C i j=true then some (g i j,false)else none
 |_,_=>none
abbrev Xu:D->D->OB:=Xt (λi j=>decide (i.length+j.length<=sizeLine)) λi j=>.str (i++j)
abbrev sLe:D->D->OB:=Xt (λ_ _=>true) λi j=>.bl (!decide (j.cps.toList<i.cps.toList))
theorem PP:cj X (binaryOp .Add) (rD X.K Xu):=by
 refine gH zV λx y H Q q=>?_;obtain⟨B,dx,dy,d,b,M,O,U,e,q⟩:=q;cases O<;>try (cases e)
 cases U<;>try (cases e)
 rename_i i j;simp only[Xt]at e;split at e
 .rename_i hc;cases e
  exact⟨i,j,rr,rr,ET hc,q.one M (.str _)⟩
 simp_all
theorem Ug:cj X (compareOp .LtE) (rD X.K sLe):=by
 intro af s σ H x y v u Q I M O q;obtain⟨B,dx,dy,d,b,U,a,c,e,q⟩:=q;cases a<;>try (cases e)
 cases c<;>try (cases e;done)
 cases e
 obtain⟨t,rfl⟩:=M;obtain⟨t',rfl⟩:=O;exact PySem.P.le_str ⟨.bl _,H,I,rr,q.one U (.bl _)⟩
end
section
variable {X:Cx}{a b c e:Expr}{pos:Pos}{st:Stmt}{ag:List Stmt}
theorem PQ:xx X [] eN:=sU.to KR λ_ _ _ h=>FK h
theorem L7 (h1:JS X st g)(h2:xx X ag h):xx X (st::ag) (bd g h):=sU.to (Fi h1 h2) λ_ _ _ q=>Ls q
theorem PR (h1:JS X st g):xx X [st] g:=KS h1
theorem Uh {c:Expr}{a b:List Stmt}{M:FT}{g h:FS}(hc:JT X c M)(ha:xx X a g)(hb:xx X b h):JS X (.If c a b pos) (p5 M g h):=PS.to (Th hc ha hb) λ_ _ _ q=>Pt q
theorem FW (he:JE X e f):JS X (.Return (some e) pos) (pf f):=PS.to (Fj he) λ_ _ _ q=>Lu q
theorem L8 (i:Nat)(O:X.N[i]? = some x)(hv:Fg X.env.scope x)(hd:(x == ("__debug__" : Str))=false)
  (M:(x == ("__classdict__" : Str))=false):JS X (.Return (some (.Name x p)) pos) (oj i):=PS.to (Fj (iB O hv hd M)) λ_ _ _ q=>FL q
theorem PU (M:X.N.Nodup)(he:JE X e f)(hi:X.N[i]? = some x)(hx:K6 X.env.scope x)(hs:swapsWith e (some (.Name x p)) pos.line X.env=pure false)
  (hf:X.fn x=true\/X.env.scope.names.lookup x=some .local):JS X (.Assign [.Name x p] e pos) (cP i f):=PS.to (uC M hi hx he hs hf) λ_ _ _ q=>B4 q
theorem L9 (M:X.N.Nodup)(he:JE X e f)(hi:X.N[i]? = some x)(hx:K6 X.env.scope x)(hs:swapsWith e (some (.Name x p)) pos.line X.env=pure false)
  (hf:X.fn x=true\/X.env.scope.names.lookup x=some .local):JS X (.Assign [.Name x p] e pos) (B3 i f):=PS.to (uC M hi hx he hs hf) λ_ _ _ q=>FM q
theorem FX (n:Nat)(hp:PassesOwn (model X.prog X.w) X.A X.env X.xe)(hc:JT X c O)(hb:xx X M g):JS X (.While c M [] pos) (cA O g n):=PS.to (Fo hp hc hb) λ_ _ _ q=>DE q
theorem PX (hp:PassesOwn (model X.prog X.w) X.A X.env X.xe)(hc:X.calm=true)(hi:JI X tg dC fi)(M:PG X tg t)(O:K9 X.K sn t)(hb:xx X U g)
  (hs:∀x,foldedSetIterable dC X.env x=pure x:=by intro _;rfl):JS X (.For tg dC U [] pos) (vi fi sn g):=PS.to (Fs hp hc hi M hb hs) λ_ _ _ q=>Lx O q
theorem LA (hp:PassesOwn (model X.prog X.w) X.A X.env X.xe)(hc:X.calm=true)(hi:PI X tg dC (TM X.K fi))(M:PG X tg t)(O:K9 X.K sn t)(hb:xx X U g)
  (hs:∀x,foldedSetIterable dC X.env x=pure x:=by intro _;rfl):JS X (.For tg dC U [] pos) (t0 fi sn g):=PS.to (Fs hp hc hi M hb hs) λ_ _ _ q=>FP O q
theorem PY (he:JE X e f)(d:X.N[i]? = some x)(hv:Fg X.env.scope x)(hd:(x == ("__debug__" : Str))=false)
  (g:(x == ("__classdict__" : Str))=false)
  (M:attributeBase (.Name x p) "append" X.env (eval (.Name x p) X.env)=eval (.Name x p) X.env)
  (U:((backTo bq (starEach [e] X.env)).all (λx=>!x.1) && (backToKw bq (keywordEach [] X.env)).all (λx=>x.1.isSome)
   && decide ([e].length+([]:List Keyword).length+(if([]:List Keyword).isEmpty then 0 else 1)<30))=true)
  (O:(bQ.endLine == bq.line)=true) (hs:starEach [e] X.env=[(false,eval e X.env)]) (h:swapsWith (.Call (.Attribute (.Name x p) "append" bQ) [e] [] bq) none pos.line X.env=pure false):
  JS X (.Expr (.Call (.Attribute (.Name x p) "append" bQ) [e] [] bq) pos) (vh i f):=by
 refine PS.to (uB (xD plainAttrs_list PySem.F.slot_list_append PySem.F.type_list_append tj (iB d hv hd g) (cF he dX hs) M U O hs rr) h) λE σ H q=>?_;obtain⟨a,us,h1,h2,k⟩:=Lv q;exact⟨_,h1,.inl ⟨rr,us,dW.of h2⟩,k⟩
end
@[simp] noncomputable def ax (g:FS)(n k:Nat):LD->OB:=λds=>if ds.length=n then
 match g (ds.map (λd=>some (d,false))++List.replicate k none) with
 |some (.rt d b)=>some (d,b)
 |some (.nx _)=>some (.non,false)
 |_=>none
 else none
def KA (K:Frag)(f:LD->OB):Sp:=λvs H Q _=>∃(B:Hp)(ds:LD)(d:D)(b:Bool),(aD B H/\Tb K B)/\IsL K B vs ds/\f ds=some (d,b)/\Fin K B H d b Q
theorem xM {K:Frag}{B H:Hp}{vs:LV}{ds:LD}{N:LS}(O:aD B H)(tb:Tb K B)(i:IsL K B vs ds):cH K B H B H (L2.kB N vs) (ds.map (λd=>some (d,false))++List.replicate (N.length - vs.length) none):=by
 have M:∀(j:Nat)(d:D)(b:Bool),(ds.map (λd=>some (d,false))++List.replicate (N.length - vs.length) none:Env)[j]? = some (some (d,b))->b=false/\ds[j]? = some d:=λj d b e=>by
  by_cases hj:j<ds.length
  .rw[getElem?_append_left (by simpa using hj),uZ]at e;obtain⟨d',h1,h2⟩:=oY e;cases h2
   exact⟨rr,h1⟩
  .rw[List.getElem?_append_right (by simpa using Nat.not_lt.mp hj),List.getElem?_replicate]at e;split at e<;>cases e
 have no:∀a,¬own (L2.kB N vs) (ds.map (λd=>some (d,false))++List.replicate (N.length - vs.length) none) a:=λa ⟨j,d,h,_⟩=>by
  obtain⟨z,_⟩:=M j d true h;cases z
 refine⟨O,tb,.refl O,?_,λj d e=>?_,λj d e=>?_,λj k a d e h=>?_⟩
 .unfold L2.kB;rw[uY,uY,vH,vH,length_replicate,length_replicate,i.length]
 .obtain⟨_,U⟩:=M j d false e;obtain⟨v,h1,h2⟩:=i.get U;refine⟨v,?_,h2.mono λa o e=>by rw[bU (no a)];exact e⟩;unfold L2.kB;have hj:=(vV h1).1;rw[getElem?_append_left (by simpa using hj),uZ,h1]<;>rfl
 .obtain⟨z,_⟩:=M j d true e;cases z
 .obtain⟨z,_⟩:=M j d true h;cases z
section
variable {P:Program}{w:World}{K:Frag}{mg:SV}{base:Heap}
theorem Ui {x qual:Str}{st:Stmt}{f:Addr}{fd:FuncData}{N ps:LS}{k:Nat}{g:FS}(F:RJ K x qual st f fd)(S:FnScope N ps (a8 st))
  (hb:∀(cW:Value)(A:Around)(outer:List PySem.Env)(s:Shared)(H:Hp)(E:XK),cV k (A.deeper (envOfC qual (a8 st) s.z f cW))->xx (oZ xE P w K mg base N qual (a8 st) f cW A outer s H E).nox (bC st) g):
  mK P w K mg base xE (k+1) f fd ps (KA K (ax g ps.length (N.length - ps.length))):=by
 have len:∀vs H Q E,KA K (ax g _ (N.length - ps.length)) vs H Q E->vs.length=ps.length:=λvs H Q E h=>by
  obtain⟨B,ds,d,b,O,i,e,q⟩:=h;unfold ax at e;split at e
  .rename_i hl;rw[i.length];exact hl
  simp_all
 refine F.ok S len λcW A outer s H vs Q E hr h=>⟨_,hb _ A _ s H E hr,?_⟩;have M:=len vs H Q E h;obtain⟨B,ds,d,b,O,i,e,q⟩:=h;unfold ax at e;rw[if_pos (by rw[<-i.length];exact M)]at e;have U:=xM (N:=N) O.1 O.2 i;rw[M]at U;split at e
 .rename_i d' b' a;cases e
  exact⟨B,H,_,_,⟨B,U⟩,a,λv H' N' c j l=>q v H' N' c j l⟩
 .rename_i ρ' a;cases e
  exact⟨B,H,_,_,⟨B,U⟩,a,λm H' ⟨N',s'⟩=>q _ H' N' s'.ext .non V9⟩
 simp_all
structure Fn (P:Program)(w:World)(K:Frag)(mg:Str->Option Value)(base:Heap)(k:Nat)(x:Str)(f:List D->OB):Prop where
 ex:∃(ad:Addr)(fd:FuncData)(ps:List Str),mK P w K mg base xE k ad fd ps (KA K f)/\mg x=some (.ref ad)/\PySem.W.keepIn K (.ref ad)=true/\oh K fd ps []
end
theorem LB (F:Fn X.prog X.w X.K X.mg X.base k x f)(hr:cV k X.A)(ha:JA X (e::es) fa)(a:Gl X x:=by rfl)
  (M:(x == ("__debug__" : Str))=false:=by decide) (he:starEach (e::es) X.env=(false,eval e X.env)::starEach es X.env:=by rfl) (O:(backTo pos (starEach es X.env)).any (·.1)=false:=by rfl):
  JE X (.Call (.Name x p) (e::es) [] pos) (fA f fa):=by
 obtain⟨ad,fd,ps,c,hm,hk,hb⟩:=F.ex;refine PE.to (Lc c hr a hm hk hb .nil TB ha M he O) λσ H Q q=>?_;obtain⟨B,ρ,d,b,s,r,e,q⟩:=q;obtain⟨ds,ex,e⟩:=oX e;exact⟨B,ρ,ds,s,r,ex,λvs g N1 U i1=>by
  show KA _ f _ g Q _;rw[uP];exact⟨N1,ds,d,b,⟨U.nh,r.tb.mono U.bn⟩,i1,e,q.into U⟩⟩
mutual
noncomputable def cJ:D->D->Bool
 |.non,.non=>true
 |.bl a,.bl b=>a == b
 |.bl a,.int b=>decide ((if a then 1 else 0)=b)
 |.int a,.bl b=>decide (a=(if b then 1 else 0))
 |.int a,.int b=>decide (a=b)
 |.str a,.str b=>decide (a=b)
 |.tup xs,.tup ys=>gS xs ys
 |.lst xs,.lst ys=>gS xs ys
 |_,_=>false
@[simp] noncomputable def gS:LD->LD->Bool
 |[],[]=>true
 |x::xs,y::ys=>cJ x y && gS xs ys
 |_,_=>false
end
@[simp] theorem xN (a b:Str):cJ (.str a) (.str b)=decide (a=b):=rfl
@[simp] theorem xx0:cJ .non .non=true:=rfl
@[simp] theorem xx1 (a b:Bool):cJ (.bl a) (.bl b)=(a == b):=rfl
@[simp] theorem xx2 (a b:Int):cJ (.int a) (.int b)=decide (a=b):=rfl
@[simp] theorem xx3 (a b:LD):cJ (.tup a) (.tup b)=gS a b:=rfl
@[simp] theorem xx4 (a b:LD):cJ (.lst a) (.lst b)=gS a b:=rfl
@[simp] theorem xx5 (a:Str)(b:Int):cJ (.str a) (.int b)=false:=rfl
@[simp] theorem xx6 (a:Int)(b:Str):cJ (.int a) (.str b)=false:=rfl
@[simp] theorem xx12 (a:LD)(b:Str):cJ (.lst a) (.str b)=false:=rfl
@[simp] theorem xx7 (a:Bool)(b:Int):cJ (.bl a) (.int b)=decide ((if a then 1 else 0)=b):=rfl
@[simp] theorem xx8 (a:Int)(b:Bool):cJ (.int a) (.bl b)=decide (a=(if b then 1 else 0)):=rfl
@[simp] noncomputable def aH:Nat->D->Bool
 |_,.non=>true
 |_,.bl _=>true
 |_,.int _=>true
 |_,.str _=>true
 |_,.ty _=>false
 |_,.dk _ _=>false
 |_,.dt _ _=>false
 |0,.tup _=>false
 |0,.lst _=>false
 |n+1,.tup ds=>ds.all (aH n)
 |n+1,.lst ds=>ds.all (aH n)
theorem xO:∀ {xs ys:LD},gS xs ys=true->xs.length=ys.length
 |[],[],_=>rr
 |x::xs,y::ys,h=>by
  simp [gS,vB]at h;rw[vC,vC,xO h.2]
 |[],_::_,h=>by simp at h
 |_::_,[],h=>by simp at h
theorem vp (h:xs.length≠ys.length):gS xs ys=false:=by
 grind[xO]
theorem iE (f:Nat->Bool):∀ {xs ys:LD},xs.length=ys.length->(∀(j:Nat) x y,xs[j]? = some x->ys[j]? = some y->f j=cJ x y)->(List.range xs.length).all f=gS xs ys
 |[],[],_,_=>by simp
 |x::xs,y::ys,hl,h=>by
  have e:=iE _ (by simpa using hl) λj a b h1 h2=>h (j+1) a b (by simpa using h1) (by simpa using h2);rw[vC,List.range_succ_eq_map,all_cons,List.all_map,gS,<-h 0 x y rr rr,<-e];rfl
 |[],_::_,hl,_=>by simp at hl
 |_::_,[],hl,_=>by simp at hl
section
variable {X:Cx}{af:AO}{σ:St}{H:Hp}{s:Shared}
theorem B5 (I:Inv X af σ H s)(h1:fL X.K H a vs)(h2:dW X.K H a ws):False:=by
 obtain⟨its,_,⟨o,e,c,_⟩,_⟩:=I.tuple h1;obtain⟨its',_,⟨o',M,O,U,_⟩,_⟩:=I.list h2;lia
theorem B6 (I:Inv X af σ H s)(e:s.heap.get? a=some o)(d:o.data=.seq its n):(∀a7 ob,H a≠some (.dK a7 ob))/\∀a7,H a≠some (.dT a7):=by
 refine⟨λa7 ob h=>?_,λa7 h=>?_⟩
 .obtain⟨_,_,_,_,_,o',es,M,O,_,d',_⟩:=(show bc _ _ H _ a _ from I.hok a _ h);simp_all
 .obtain⟨_,_,_,_,o',es,M,O,_,d',_⟩:=(show bc _ _ H _ a _ from I.hok a _ h);simp_all
theorem xP (I:Inv X af σ H s)(h1:fL X.K H a vs):(∀a7 ob,H a≠some (.dK a7 ob))/\∀a7,H a≠some (.dT a7):=by
 obtain⟨its,_,⟨o,e,c,n,d⟩,_⟩:=I.tuple h1;exact B6 I e d
theorem xQ (I:Inv X af σ H s)(h1:dW X.K H a vs):(∀a7 ob,H a≠some (.dK a7 ob))/\∀a7,H a≠some (.dT a7):=by
 obtain⟨its,_,p,_⟩:=I.list h1;obtain⟨o,e,c,n,d⟩:=p.isList;exact B6 I e d
theorem B7 (I:Inv X af σ H s):∀(n:Nat){v:V}{d d':D},Is X.K H v d->Is X.K H v d'->aH n d=true->cJ d d'=true:=by
 have M:∀ {p:D->Bool}(U:∀ {v:V}{d d':D},Is X.K H v d->Is X.K H v d'->p d=true->cJ d d'=true) {vs:LV}{ds O:LD},IsL X.K H vs ds->IsL X.K H vs O->ds.all p=true->gS ds O=true:=by
  intro p U vs;induction vs with
  |nil=>intro ds O h h' _;cases h;cases h';rfl
  |cons v vs a=>
   intro ds O h h' hp;cases h with
   |cons h1 h2=>
    cases h' with
    |cons h3 h4=>
     rw[all_cons,vB]at hp;rw[gS,U h1 h3 hp.1,a h2 h4 hp.2];rfl
 intro n;induction n with
 |zero=>
  intro v d d' h h' hp;cases h<;>cases h'<;>first|(simp at hp;done)|simp
 |succ n U=>
  intro v d d' h h' hp;cases h with
  |tup h1 h2=>
   cases h' with
   |tup h3 h4=>
    rw[I.tuple_inj h3 h1]at h4;exact M U h2 h4 (by simpa [aH]using hp)
   |lst h3 h4=>exact(B5 I h1 h3).elim
   |dk h3 _ _=>exact((xP I h1).1 _ _ h3).elim
   |dt h3 _ _=>exact((xP I h1).2 _ h3).elim
  |lst h1 h2=>
   cases h' with
   |lst h3 h4=>
    rw[I.list_inj h3 h1]at h4;exact M U h2 h4 (by simpa [aH]using hp)
   |tup h3 h4=>exact(B5 I h3 h1).elim
   |dk h3 _ _=>exact((xQ I h1).1 _ _ h3).elim
   |dt h3 _ _=>exact((xQ I h1).2 _ h3).elim
  |ty=>simp at hp
  |dk=>simp at hp
  |dt=>simp at hp
  |_=>cases h'<;>simp
theorem xR {A:Around}{p:D->Bool}(g:∀ {U a:V}{d1 d2:D}{b c:Value},p d1=true->p d2=true->Is X.K H U d1->Is X.K H a d2->aG U b->aG a c->SeqAt.EqAt A s b c (cJ d1 d2))
  {vs O:LV}{ds es:LD}{its M:LU}(i1:IsL X.K H vs ds) (i2:IsL X.K H O es) (e:aF vs its) (f:aF O M) (h:ds.all p=true) (p2:es.all p=true):
  ∀j (h1:j<its.toArray.size) (h2:j<M.toArray.size),SeqAt.EqAt A s its.toArray[j] M.toArray[j] (cJ (ds.getD j .non) (es.getD j .non)):=by
 intro j h1 h2;rw[vG]at h1 h2;have l1:=e.length;have l2:=f.length;have k:=i1.length;have l:=i2.length;have hv:j<vs.length:=N9
 have hw:j<O.length:=N9
 have hd:j<ds.length:=N9
 have he:j<es.length:=N9
 obtain⟨u,m,n⟩:=e.get (i:=j) (x:=vs[j]) (by simp );obtain⟨o,e2,q2⟩:=f.get (i:=j) (x:=O[j]) (by simp );obtain⟨v,q,r⟩:=i1.get (i:=j) (d:=ds[j]) (by simp );obtain⟨w,t,y⟩:=i2.get (i:=j) (d:=es[j]) (by simp );grind
theorem vq {xs ys:LD}(j:Nat)(x y:D)(h1:xs[j]? = some x)(h2:ys[j]? = some y):cJ (xs.getD j .non) (ys.getD j .non)=cJ x y:=by
 simp[h1,h2]
abbrev Xv (A:Around)(s:Shared)(M O:Value)(b:Bool):Prop:=SeqAt.RcAt A s M O b/\SeqAt.EqAt A s M O b/\SeqAt.RcNeAt A s M O (!b)
theorem B8 {M O:Addr}(rc:SeqAt.RcAt A s (.ref M) (.ref O) b)(U:SeqAt.RcNeAt A s (.ref M) (.ref O) (!b))(h:M=O->b=true):Xv A s (.ref M) (.ref O) b:=by
 grind[SeqAt.EqAt.same,SeqAt.EqAt.of_refs]
theorem xS (U:aH 0 d1=true)(p2:aH 0 d2=true)(i1:Is X.K H v1 d1)(i2:Is X.K H v2 d2)(O:aG v1 u1)(M:aG v2 u2):Xv A s u1 u2 (cJ d1 d2):=by
 cases i1 with
 |non=>
  cases O
  cases i2 with
  |non=>cases M;exact⟨.none_none,.same _,.none_none⟩
  |bl b=>cases M;exact⟨.none_bool _,.none_bool _,.none_bool _⟩
  |int b=>obtain⟨t',rfl⟩:=M;exact⟨.none_int _ _,.none_int _ _,.none_int _ _⟩
  |str b=>obtain⟨t',rfl⟩:=M;exact⟨.none_str _ _,.none_str _ _,.none_str _ _⟩
  |_=>simp at p2
 |bl a=>
  cases O
  cases i2 with
  |non=>cases M;exact⟨.bool_none _,.bool_none _,.bool_none _⟩
  |bl b=>cases M;exact⟨.bool_bool _ _,.bool_bool _ _,.bool_bool _ _⟩
  |int b=>obtain⟨t',rfl⟩:=M;exact⟨.bool_int _ _ _,.bool_int _ _ _,.bool_int _ _ _⟩
  |str b=>obtain⟨t',rfl⟩:=M;exact⟨.bool_str _ _ _,.bool_str _ _ _,.bool_str _ _ _⟩
  |_=>simp at p2
 |int a=>
  obtain⟨t,rfl⟩:=O;cases i2 with
  |non=>cases M;exact⟨.int_none _ _,.int_none _ _,.int_none _ _⟩
  |bl b=>cases M;exact⟨.int_bool _ _ _,.int_bool _ _ _,.int_bool _ _ _⟩
  |int b=>obtain⟨t',rfl⟩:=M;exact⟨.int_int _ _ _ _,.int_int _ _ _ _,.int_int _ _ _ _⟩
  |str b=>obtain⟨t',rfl⟩:=M;exact⟨.int_str _ _ _ _,.int_str _ _ _ _,.int_str _ _ _ _⟩
  |_=>simp at p2
 |str a=>
  obtain⟨t,rfl⟩:=O;cases i2 with
  |non=>cases M;exact⟨.str_none _ _,.str_none _ _,.str_none _ _⟩
  |bl b=>cases M;exact⟨.str_bool _ _ _,.str_bool _ _ _,.str_bool _ _ _⟩
  |int b=>obtain⟨t',rfl⟩:=M;exact⟨.str_int _ _ _ _,.str_int _ _ _ _,.str_int _ _ _ _⟩
  |str b=>obtain⟨t',rfl⟩:=M;exact⟨.str_str _ _ _ _,.str_str _ _ _ _,.str_str _ _ _ _⟩
  |_=>simp at p2
 |_=>simp at U
theorem NR (I:Inv X af σ H s):∀(n:Nat){A:Around}{f g:V}{d1 d2:D}{h i:Value},A.units+n<cLine->aH n d1=true->aH n d2=true->Is X.K H f d1->Is X.K H g d2->aG f h->aG g i->Xv A s h i (cJ d1 d2):=by
 intro n;induction n with
 |zero=>exact λ_ c p2 i1 i2 a b=>xS c p2 i1 i2 a b
 |succ n z=>
  intro A f g d1 d2 h i hu c p2 i1 i2 a b;have M:A.units<cLine:=N9
  have w:∀ {f g:V}{d1 d2:D}{h i:Value},aH n d1=true->aH n d2=true->Is X.K H f d1->Is X.K H g d2->aG f h->aG g i->SeqAt.EqAt A.in1 s h i (cJ d1 d2):=λc p2 i1 i2 a b=>(z (A:=A.in1) (by show A.units+1+n<cLine;lia) c p2 i1 i2 a b).2.1;by_cases f2:aH 0 d2=true
  .by_cases f1:aH 0 d1=true
   .exact xS f1 f2 i1 i2 a b
   .cases i1 with
    |tup h1 k1=>
     cases a
     obtain⟨its,d,O,k⟩:=I.tuple h1;cases i2 with
     |non=>cases b;exact⟨.tuple_none O M,.tuple_none O M,.tuple_none O M⟩
     |bl=>cases b;exact⟨.tuple_bool _ O M,.tuple_bool _ O M,.tuple_bool _ O M⟩
     |int=>obtain⟨t,rfl⟩:=b;exact⟨.tuple_int _ _ O M,.tuple_int _ _ O M,.tuple_int _ _ O M⟩
     |str=>obtain⟨t,rfl⟩:=b;exact⟨.tuple_str _ _ O M,.tuple_str _ _ O M,.tuple_str _ _ O M⟩
     |_=>simp at f2
    |lst h1 k1=>
     cases a
     obtain⟨its,d,O,k⟩:=I.list h1;replace O:=O.isList;cases i2 with
     |non=>cases b;exact⟨.list_none O M,.list_none O M,.list_none O M⟩
     |bl=>cases b;exact⟨.list_bool _ O M,.list_bool _ O M,.list_bool _ O M⟩
     |int=>obtain⟨t,rfl⟩:=b;exact⟨.list_int _ _ O M,.list_int _ _ O M,.list_int _ _ O M⟩
     |str=>obtain⟨t,rfl⟩:=b;exact⟨.list_str _ _ O M,.list_str _ _ O M,.list_str _ _ O M⟩
     |_=>simp at f2
    |_=>simp at f1 c
  .cases i2 with
   |tup h2 k2=>
    cases b
    obtain⟨l,m,U,B⟩:=I.tuple h2;cases i1 with
    |tup h1 k1=>
     cases a
     obtain⟨its,d,O,k⟩:=I.tuple h1;rename_i q C es r vs ds;have he:=xR (A:=A.in1) (p:=aH n) w k1 k2 d m (by simpa using c) (by simpa using p2);have u:((List.range (min its.toArray.size l.toArray.size)).all (λj=>cJ (ds.getD j .non) (es.getD j .non)) && its.toArray.size == l.toArray.size)=cJ (.tup ds) (.tup es):=by
      show _=gS ds es;rw[vG,vG,<-d.length,<-m.length,k1.length,k2.length];by_cases hl:ds.length=es.length
      .rw[<-hl,Nat.min_self,beq_self_eq_true,Bool.and_true];exact iE _ hl λj x y v e2=>vq j x y v e2
      simp_all[vp]
     have rc:=SeqAt.RcAt.tuples O U M he;have o:=SeqAt.RcNeAt.tuples O U M he;rw[u]at rc o;exact B8 rc o λe=>by subst e;exact B7 I (n+1) (.tup h1 k1) (.tup h2 k2) c
    |lst h1 k1=>cases a;obtain⟨its,d,O,k⟩:=I.list h1;exact⟨.list_tuple O.isList U M,.list_tuple O.isList U M,.list_tuple O.isList U M⟩
    |non=>cases a;exact⟨.none_tuple U M,.none_tuple U M,.none_tuple U M⟩
    |bl=>cases a;exact⟨.bool_tuple _ U M,.bool_tuple _ U M,.bool_tuple _ U M⟩
    |int=>obtain⟨t,rfl⟩:=a;exact⟨.int_tuple _ _ U M,.int_tuple _ _ U M,.int_tuple _ _ U M⟩
    |str=>obtain⟨t,rfl⟩:=a;exact⟨.str_tuple _ _ U M,.str_tuple _ _ U M,.str_tuple _ _ U M⟩
    |_=>simp at c
   |lst h2 k2=>
    cases b
    obtain⟨l,m,U,B⟩:=I.list h2;replace U:=U.isList;cases i1 with
    |lst h1 k1=>
     cases a
     obtain⟨its,d,O,k⟩:=I.list h1;replace O:=O.isList;rename_i q C es r vs ds;have he:=xR (A:=A.in1) (p:=aH n) w k1 k2 d m (by simpa using c) (by simpa using p2);have both:SeqAt.RcAt A s (.ref r) (.ref q) (cJ (.lst ds) (.lst es))/\SeqAt.RcNeAt A s (.ref r) (.ref q) (!cJ (.lst ds) (.lst es)):=by
      have hz:its.toArray.size=ds.length/\l.toArray.size=es.length:=by rw[vG,vG,<-d.length,<-m.length,k1.length,k2.length];simp
      by_cases hl:ds.length=es.length
      .have u:(List.range its.toArray.size).all (λj=>cJ (ds.getD j .non) (es.getD j .non))=cJ (.lst ds) (.lst es):=by
        show _=gS ds es;rw[hz.1];exact iE _ hl λj x y v e2=>vq j x y v e2
       have hs:=(hz.1.trans hl).trans hz.2.symm;have rc:=SeqAt.RcAt.lists O U hs M he;have o:=SeqAt.RcNeAt.lists O U hs M he;rw[u]at rc o;exact⟨rc,o⟩
      .have hs:(its.toArray.size != l.toArray.size)=true:=by simp_all
       rw[show cJ (.lst ds) (.lst es)=false from vp hl];exact⟨.lists_lengths O U hs M,.lists_lengths O U hs M⟩
     exact B8 both.1 both.2 λe=>by subst e;exact B7 I (n+1) (.lst h1 k1) (.lst h2 k2) c
    |tup h1 k1=>cases a;obtain⟨its,d,O,k⟩:=I.tuple h1;exact⟨.tuple_list O U M,.tuple_list O U M,.tuple_list O U M⟩
    |non=>cases a;exact⟨.none_list U M,.none_list U M,.none_list U M⟩
    |bl=>cases a;exact⟨.bool_list _ U M,.bool_list _ U M,.bool_list _ U M⟩
    |int=>obtain⟨t,rfl⟩:=a;exact⟨.int_list _ _ U M,.int_list _ _ U M,.int_list _ _ U M⟩
    |str=>obtain⟨t,rfl⟩:=a;exact⟨.str_list _ _ U M,.str_list _ _ U M,.str_list _ _ U M⟩
    |_=>simp at c
   |_=>simp at f2 p2
@[simp] def je:D->D->OB:=λx y=>if aH 40 x=true/\aH 40 y=true then some (.bl (cJ x y),false)else none
@[simp] def xT:D->D->OB:=λx y=>if aH 40 x=true/\aH 40 y=true then some (.bl (!cJ x y),false)else none
theorem Xw (hu:X.A.units+40<cLine):cj X (compareOp .Eq) (rD X.K je):=by
 intro af s σ H x y v u Q I O U q;obtain⟨B,dx,dy,d,b,M,a,c,e,q⟩:=q;unfold je at e;split at e
 .rename_i hp;cases e
  exact(NR I 40 hu hp.1 hp.2 (a.mono M) (c.mono M) O U).1 _ _ _ _ ⟨.bl _,H,I,rr,q.one M (.bl _)⟩
 simp_all
theorem Xx (hu:X.A.units+40<cLine):cj X (compareOp .NotEq) (rD X.K xT):=by
 intro af s σ H x y v u Q I O U q;obtain⟨B,dx,dy,d,b,M,a,c,e,q⟩:=q;unfold xT at e;split at e
 .rename_i hp;cases e
  exact(NR I 40 hu hp.1 hp.2 (a.mono M) (c.mono M) O U).2.2 _ _ _ _ ⟨.bl _,H,I,rr,q.one M (.bl _)⟩
 simp_all
end
section
variable {X:Cx}{a b e:Expr}{pos:Pos}
theorem B9 {K:Frag}{H:Hp}{vs:LV}{ds:LD}{i:Int}{d:D}(h:IsL K H vs ds)(e:l5 ds i=some d):∃v,l5 vs i=some v/\Is K H v d:=by
 unfold l5 at e |-;rw[h.length];cases q:EZ _ i with
 |none=>rw[q]at e;cases e
 |some j=>rw[q]at e;exact h.get e
@[simp] noncomputable def eG:D->D->OB
 |.lst ds,.int i=>(l5 ds i).map λd=>(d,false)
 |.tup ds,.int i=>(l5 ds i).map λd=>(d,false)
 |.str z,.int i=>if z.length<=sizeLine then (l5 z.cps.toList i).map λc=>(.str ⟨#[c]⟩,false)else none
 |_,_=>none
theorem Xy:Fz X (rD X.K eG):=by
 intro U f af s σ H x y v u Q I g j q hs;obtain⟨B,dx,dy,d,b,M,k,l,e,q⟩:=q;cases k<;>try (cases e)
 all_goals (cases l<;>try (cases e))
 .simp only[eG]at e;split at e
  .rename_i hz;obtain⟨c,O,e2⟩:=oY e;cases e2
   exact Aa _ _ _ s σ H _ _ v u Q I g j ⟨_,_,c,rr,rr,hz,O,q.one M (.str _)⟩ hs
  simp_all
 .rename_i h hl i;obtain⟨c,O,e2⟩:=oY e;cases e2
  obtain⟨w,h1,h2⟩:=B9 hl O;exact F3 _ _ _ s σ H _ _ v u Q I g j ⟨_,_,_,w,rr,rr,aK M h,h1,q.one M h2⟩ hs
 .rename_i h hl i;obtain⟨c,O,e2⟩:=oY e;cases e2
  obtain⟨w,h1,h2⟩:=B9 hl O;exact Lk _ _ _ s σ H _ _ v u Q I g j ⟨_,_,_,w,rr,rr,M.seq h,h1,q.one M h2⟩ hs
theorem Uj (ha:JE X a fa)(hb:JE X b M)(hs:lA b):JE X (.Subscript a b pos) (f2 eG fa M):=PE.to (F0 Xy ha hb hs) λ_ _ _ h=>Lp h
abbrev FO:=Env->Option OI
def tDO (K:Frag)(f:FO):TO:=λσ H Q=>∃(B:Hp)(ρ:Env)(o:OI),aD B H/\dR K B σ ρ/\f ρ=some o/\∀H',aD H H'->Q o H'
abbrev JO (X:Cx)(e:Option Expr)(f:FO):Prop:=PO X e (tDO X.K f)
@[simp] noncomputable def eO:FO:=λ_=>some none
@[simp] noncomputable def dE (f:FE):FO:=λρ=>match f ρ with|some (.int i,_)=>some (some i)|_=>none
theorem LC:JO X none eO:=λaf s σ H Q I h=>Lg _ s σ H Q I (by
 obtain⟨B,ρ,o,M,r,e,q⟩:=h;cases e
 exact q H (.refl H))
theorem LF (h:JE X e f):JO X (some e) (dE f):=λaf s σ H Q I q=>Lh h _ s σ H Q I (by
 obtain⟨B,ρ,o,M,r,e,q⟩:=q;unfold dE at e;split at e
 .rename_i i b' O;cases e
  refine⟨B,ρ,_,_,M,r,O,λv U N1 c i1 _=>?_⟩;cases i1
  exact⟨i,rr,q U c.hh⟩
 simp_all)
def jf (ds:LD)(lo hi:OI):LD:=(ds.drop (HT.cQ ds.length 0 lo)).take (HT.cQ ds.length ds.length hi - HT.cQ ds.length 0 lo)
theorem vt {K:Frag}{H:Hp}{vs:LV}{ds:LD}{lo hi:OI}(h:IsL K H vs ds):IsL K H (su vs lo hi) (jf ds lo hi):=by
 unfold su jf;rw[h.length];exact(h.drop _).take _
theorem bH.to (h:bH X f r)(k:∀xs H Q,O xs H Q->r xs H Q):bH X f O:=λaf s σ H xs us Q I M q=>h _ s σ H xs us Q I M (k xs H Q q)
variable {es:QD}{x:Str}{p:Pos}{id T:String}
theorem FY (hc:bH X (.builtin id) (Ae X.K f))(hm:X.mg x=none)(hv:bootBuiltins x=some (.builtin id))(ha:JA X (e::es) fa)(U:Gl X x)(hn:x ≠ "__name__")(M:(x == ("__debug__" : Str))=false)
  (he:starEach (e::es) X.env=(false,eval e X.env)::starEach es X.env) (O:(backTo pos (starEach es X.env)).any (·.1)=false):JE X (.Call (.Name x p) (e::es) [] pos) (fA f fa):=PE.to (pL hc U hm hv ha hn M he O) λ_ _ _ h=>Lq h
theorem DH (hc:bH X (.type T) (Ae X.K f))(hm:X.mg x=none)(hv:bootBuiltins x=some (.type T))(ha:JA X (e::es) fa)(U:Gl X x)(hn:x ≠ "__name__")(M:(x == ("__debug__" : Str))=false)
  (he:starEach (e::es) X.env=(false,eval e X.env)::starEach es X.env) (O:(backTo pos (starEach es X.env)).any (·.1)=false):JE X (.Call (.Name x p) (e::es) [] pos) (fA f fa):=PE.to (mO hc U hm hv ha hn M he O) λ_ _ _ h=>Lq h
@[simp] noncomputable def pR:LD->OB
 |[.lst ds]=>some (.int ds.length,false)
 |[.tup ds]=>some (.int ds.length,false)
 |[.str z]=>if z.length<=sizeLine then some (.int z.length,false)else none
 |_=>none
theorem Uk:bH X (.builtin "len") (Ae X.K pR):=by
 refine bH.to (bH.or uI uJ) λxs H Q q=>?_;obtain⟨B,ds,d,b,M,i,e,q⟩:=q;cases i with
 |nil=>simp at e
 |cons i1 i2=>
  cases i2 with
  |cons _ _=>cases i1<;>simp at e
  |nil=>
   cases i1<;>try (simp at e;done)
   .simp only[pR]at e;split at e
    .rename_i hz;cases e
     exact .inr ⟨_,rr,hz,q.one M (.int _)⟩
    simp_all
   .rename_i h hl;cases e
    refine .inl ⟨_,_,rr,.inr (aK M h),?_⟩;rw[hl.length];exact q.one M (.int _)
   .rename_i h hl;cases e
    refine .inl ⟨_,_,rr,.inl (M.seq h),?_⟩;rw[hl.length];exact q.one M (.int _)
theorem Ul (hm:X.mg x=none)(hv:bootBuiltins x=some (.type n))(M:Gl X x)(hn:x ≠ "__name__")(hd:(x == ("__debug__" : Str))=false):JE X (.Name x pos) (fC (.ty n)):=
 PE.to (KP M hm hv (v:=.ty n) rr hn hd) λ_ _ _ h=>DG (λ_=>.ty n) h
end
theorem lJ (hr:cV k A):A.units+40<cLine:=by have:=hr.un;lia
section
variable {X:Cx}{a b e:Expr}{pos:Pos}{x:Str}{p:Pos}
theorem FZ (h:∃u v,X.mg x=some u/\aG v u/\∀B,Is X.K B v d)(M:Gl X x)(hd:(x == ("__debug__" : Str))=false):JE X (.Name x pos) (fC d):=by
 obtain⟨u,v,hm,r,i⟩:=h;exact L3 M hm r i hd
@[simp] noncomputable def Um:D->D->OB
 |.int i,.int j=>some (.int (i+j),false)
 |.str i,.str j=>if i.length+j.length<=sizeLine then some (.str (i++j),false)else none
 |_,_=>none
theorem LG:cj X (binaryOp .Add) (rD X.K Um):=by
 refine gH (kW Ua PP) λx y H Q q=>?_;obtain⟨B,dx,dy,d,b,M,O,U,e,q⟩:=q;refine⟨B,dx,dy,d,b,M,O,U,?_,q⟩;cases dx<;>try (cases e)
 all_goals (cases dy<;>try (done))
 all_goals simp_all[PL]
@[simp] def xU:D->D->OB:=TY
theorem PZ:cj X (binaryOp .Mult) (rD X.K xU):=Uc
@[simp] def Wm:D->D->OB:=Zk
theorem Uo:cj X (compareOp .Lt) (rD X.K Wm):=Xp
@[simp] noncomputable def NS:D->D->OB
 |.int i,.int j=>some (.bl (decide (i<=j)),false)
 |.str i,.str j=>some (.bl (!decide (j.cps.toList<i.cps.toList)),false)
 |_,_=>none
theorem Ur:cj X (compareOp .LtE) (rD X.K NS):=by
 refine gH (kW Xq Ug) λx y H Q q=>?_;obtain⟨B,dx,dy,d,b,M,O,U,e,q⟩:=q;refine⟨B,dx,dy,d,b,M,O,U,?_,q⟩;cases dx<;>try (cases e)
 all_goals (cases dy<;>try (done))
 all_goals simp_all[PL]
@[simp] noncomputable def Ga:D->OB
 |.int i=>some (.int (-i),false)
 |_=>none
theorem Us:To X (unaryOp .USub) (Xk X.K Ga):=by
 intro af s σ H x v Q I M q;obtain⟨B,dx,d,b,O,U,e,q⟩:=q;cases U<;>try (simp at e;done)
 cases e
 exact Pc _ s σ H _ v Q I M ⟨_,rr,q.one O (.int _)⟩
@[simp] noncomputable def DI:D->D->Option Bool
 |x,.non=>some (match x with|.non=>true|_=>false)
 |x,.bl b=>some (match x with|.bl a=>a == b|_=>false)
 |_,_=>none
@[simp] def Su:D->D->OB:=λx y=>(DI x y).map λb=>(.bl b,false)
@[simp] def gI:D->D->OB:=λx y=>(DI x y).map λb=>(.bl (!b),false)
theorem BA {K:Frag}{B:Hp}{x y:V}{v u:Value}{dx dy:D}{k:Bool}(O:Is K B x dx)(U:Is K B y dy)(M:aG x v)(f:aG y u)(e:DI dx dy=some k):plainIs v u=true/\(v == u)=k:=by
 cases U<;>(first|(cases e;done)|skip)
 all_goals (cases O)
 all_goals (first|(obtain⟨t,rfl⟩:=M)|cases M)
 all_goals (cases f)
 all_goals (cases e)
 all_goals (first|exact⟨rr,rr⟩|skip)
 all_goals (rename_i c d;cases c<;>cases d<;>exact⟨rr,rr⟩)
theorem Xz:cj X (compareOp .Is) (rD X.K Su):=by
 intro af s σ H x y v u Q I M O q;obtain⟨B,dx,dy,d,b,U,c,f,e,q⟩:=q;obtain⟨k,ek,e⟩:=oY e;cases e
 obtain⟨h1,h2⟩:=BA c f M O ek;refine wpAny_is_plain h1 ⟨.bl k,H,I,by rw[h2];rfl,q.one U (.bl _)⟩
theorem LH:cj X (compareOp .IsNot) (rD X.K gI):=by
 intro af s σ H x y v u Q I M O q;obtain⟨B,dx,dy,d,b,U,c,f,e,q⟩:=q;obtain⟨k,ek,e⟩:=oY e;cases e
 obtain⟨h1,h2⟩:=BA c f M O ek;refine wpAny_isNot_plain h1 ⟨.bl _,H,I,by rw[h2];rfl,q.one U (.bl _)⟩
@[simp] noncomputable def gT:D->Bool
 |.non=>true|.bl _=>true|.int _=>true|.str _=>true
 |_=>false
noncomputable def KE (x:D)(ds:LD):Bool:=ds.any λy=>cJ y x
@[simp] noncomputable def fz:D->Option LD
 |.lst ds=>some ds
 |.tup ds=>some ds
 |_=>none
@[simp] def LJ:D->D->OB:=λx y=>(fz y).bind λds=>if gT x=true/\ds.all gT=true then some (.bl (KE x ds),false)else none
@[simp] def fj:D->D->OB:=λx y=>(fz y).bind λds=>if gT x=true/\ds.all gT=true then some (.bl (!KE x ds),false)else none
theorem pT {K:Frag}{B:Hp}{v:V}{d:D}(i:Is K B v d)(h:gT d=true):kE v=true:=by
 cases i<;>first|rfl|(simp at h)
theorem X0 {K:Frag}{B:Hp}{v w:V}{d e:D}(i:Is K B v d)(j:Is K B w e)(h:gT d=true)(h':gT e=true):Lm v w=cJ d e:=by
 cases i<;>(first|(simp at h)|skip)
 all_goals (cases j<;>(first|(done)|skip))
 all_goals rfl
theorem xV {K:Frag}{B:Hp}:∀ {vs:LV}{ds:LD},IsL K B vs ds->ds.all gT=true->vs.all kE=true
 |_,_,.nil,_=>rr
 |_,_,.cons i t,h=>by
  rw[all_cons,vB]at h;rw[all_cons,pT i h.1,xV t h.2];rfl
theorem Gb {K:Frag}{B:Hp}{v:V}{d:D}(j:Is K B v d)(hd:gT d=true):∀ {vs:LV}{ds:LD},IsL K B vs ds->ds.all gT=true->Wk v vs=KE d ds
 |_,_,.nil,_=>rr
 |_,_,.cons i t,h=>by
  rw[all_cons,vB]at h;have e:=Gb j hd t h.2;unfold Wk KE at *;rw[any_cons,any_cons,e,X0 i j h.1 hd]
theorem Ut:cj X (compareOp .In) (rD X.K LJ):=by
 refine gH D8 λx y H Q q=>?_;obtain⟨B,dx,dy,d,b,M,O,U,e,q⟩:=q;obtain⟨ds,es,e⟩:=oX e;split at e
 .rename_i hf;cases e
  cases U<;>simp [fz]at es<;>try (cases es;done)
  .rename_i h hl;cases es
   exact⟨_,_,rr,.inr (aK M h),pT O hf.1,xV hl hf.2,by rw[Gb O hf.1 hl hf.2];exact q.one M (.bl _)⟩
  .rename_i h hl;cases es
   exact⟨_,_,rr,.inl (M.seq h),pT O hf.1,xV hl hf.2,by rw[Gb O hf.1 hl hf.2];exact q.one M (.bl _)⟩
 simp_all
theorem Gc:cj X (compareOp .NotIn) (rD X.K fj):=by
 refine gH uH λx y H Q q=>?_;obtain⟨B,dx,dy,d,b,M,O,U,e,q⟩:=q;obtain⟨ds,es,e⟩:=oX e;split at e
 .rename_i hf;cases e
  cases U<;>simp [fz]at es<;>try (cases es;done)
  .rename_i h hl;cases es
   exact⟨_,_,rr,.inr (aK M h),pT O hf.1,xV hl hf.2,by rw[Gb O hf.1 hl hf.2];exact q.one M (.bl _)⟩
  .rename_i h hl;cases es
   exact⟨_,_,rr,.inl (M.seq h),pT O hf.1,xV hl hf.2,by rw[Gb O hf.1 hl hf.2];exact q.one M (.bl _)⟩
 simp_all
theorem NT:bootBuiltins "len" = some (.builtin "len"):=PySem.boot_len
theorem lK:bootBuiltins "isinstance" = some (.builtin "isinstance"):=H9
theorem Uu:bootBuiltins "all" = some (.builtin "all"):=H9
theorem Uv:bootBuiltins "int" = some (.type "int"):=H9
theorem Qa:bootBuiltins "bool" = some (.type "bool"):=H9
theorem Uw:bootBuiltins "str" = some (.type "str"):=H9
theorem Ai:bootBuiltins "list" = some (.type "list"):=H9
theorem BB:bootBuiltins "tuple" = some (.type "tuple"):=H9
@[simp] noncomputable def aaQ:LD->OB
 |[.int i,.int j]=>some (.int (if j > i then j else i),false)
 |_=>none
@[simp] noncomputable def gJ:D->String
 |.non=>"NoneType" | .bl _=>"bool" | .int _=>"int" | .str _=>"str" | .ty _=>"type" | .tup _=>"tuple" | .lst _=>"list" | .dk _ _=>"dict" | .dt _ _=>"dict"
@[simp] noncomputable def Aj:D->Bool
 |.ty _=>true
 |_=>false
@[simp] noncomputable def BC (t n:String):OB:=
 if n = "int" then some (.bl (t == "int" || t == "bool"),false)else if n = "bool" then some (.bl (t == "bool"),false)else if n = "str" then some (.bl (t == "str"),false)
 else if n = "list" then some (.bl (t == "list"),false)else if n = "tuple" then some (.bl (t == "tuple"),false)else none
@[simp] def om:LD->OB
 |[d,.ty n]=>if Aj d=true then none else BC (gJ d) n
 |_=>none
theorem LL {af:AO}{σ:St}{H:Hp}{s:Shared}{A:Around}{E:QV}{Q:QV}{c:Value}{b:Bool}{v:V}{d:D}{u:Value}(I:Inv X af σ H s)(i:Is X.K H v d)(hd:∀n,d≠.ty n)(M:aG v u)(e:PySem.W.kitOne X.K (.type (gJ d)) c=some b)(h:∀tk,Q (.bool b) { s with toks:=tk }):
  wpAny (model X.prog X.w) A (call (.builtin "isinstance") [u,c]) Q E s:=by
 cases i with
 |non=>exact fB I M .non e h
 |bl y=>exact fB I M (.bl y) e h
 |int y=>exact fB I M (.int y) e h
 |str y=>exact fB I M (.str y) e h
 |ty n=>exact absurd rr (hd n)
 |dk h1 _ _=>exact fB I M (.dK h1) e h
 |dt h1 _ _=>exact fB I M (.dT h1) e h
 |tup O _=>
  cases M
  obtain⟨its,_,⟨o,h1,h2,_⟩,_⟩:=I.tuple O;exact kia_one PySem.W.kitx_tuple I.kIn ⟨o,h1,h2⟩ e (λz=>nomatch z) h
 |lst hl _=>
  cases M
  obtain⟨its,_,⟨o,n,h1,h2,_⟩,_⟩:=I.list hl;exact kia_one PySem.W.kitx_list I.kIn ⟨o,h1,h2⟩ e (λz=>nomatch z) h
theorem Gd (K:Frag)(d:D)(hd:∀n,d≠.ty n):
  PySem.W.kitOne K (.type (gJ d)) (.type "int")=some (gJ d == "int" || gJ d == "bool")/\PySem.W.kitOne K (.type (gJ d)) (.type "bool")=some (gJ d == "bool")/\PySem.W.kitOne K (.type (gJ d)) (.type "str")=some (gJ d == "str") /\
   PySem.W.kitOne K (.type (gJ d)) (.type "list")=some (gJ d == "list")/\PySem.W.kitOne K (.type (gJ d)) (.type "tuple")=some (gJ d == "tuple"):=by
 cases d<;>(first|exact absurd _ _|skip)
 all_goals (refine⟨?_,?_,?_,?_,?_⟩<;>kernel_rfl)
theorem vv:bH X (.builtin "isinstance") (Ae X.K om):=by
 intro af s σ H xs us Q I O q;obtain⟨B,ds,d,b,M,i,e,q⟩:=q;cases i with
 |nil=>cases e
 |cons i1 i=>cases i with
 |nil=>cases e
 |cons i2 i=>
  cases i2<;>try (cases e)
  cases i<;>try (cases e)
  rename_i dx n;obtain⟨g,h,rfl,U,c⟩:=NK O;cases c
  simp only[om]at e;split at e
  .cases e
  .rename_i f;have hd:∀n,dx≠.ty n:=λn z=>by subst z;exact f rr
   obtain⟨k1,k2,k3,k4,k5⟩:=Gd X.K dx hd;have dv:∀ {k:Bool},PySem.W.kitOne _ _ (.type n)=some k->Fin X.K B H _ _ Q->wpAny _ X.A _ (EP X _ σ Q) X.xe s:=λ{k} hk q=>
    LL I (i1.mono M) hd U hk λtk=>⟨.bl k,H,I.tok tk,rr,q.one M (.bl k)⟩
   unfold BC at e;grind
@[simp] def Ge (f:FE):FA:=λρ=>(f ρ).bind λx=>fz x.1
theorem BD (h:JE X e f):JI X tg e (Ge f):=by
 intro af s σ H R I q;obtain⟨B,ρ,ds,j,r,k,q⟩:=q;obtain⟨x,ex,es⟩:=oX k;obtain⟨xd,m⟩:=x;cases xd<;>simp [fz]at es<;>try (cases es;done)
 .cases es
  refine OR h _ s σ H R I ⟨B,ρ,_,_,j,r,ex,λv g N1 U i1 _=>?_⟩;cases i1 with
  |@tup a vs _ O hl=>
   refine⟨a,rr,⟨vs,aK U.nh O⟩,q _ g N1 U λi H2 s2=>⟨λd ed=>?_,λM=>⟨vs,aK s2 O,by rw[hl.length];exact M⟩⟩⟩;obtain⟨v,c,iv⟩:=hl.get ed;refine⟨⟨vs,v,aK s2 O,c⟩,λy l hy=>?_⟩;obtain⟨rfl,hy⟩:=hy;have:=hy vs (aK s2 O);rw[c]at this;cases this;exact⟨N1,.refl s2,iv⟩
 .cases es
  refine KU h _ s σ H R I ⟨B,ρ,_,_,j,r,ex,λv g N1 U i1 _=>?_⟩;cases i1 with
  |@lst a vs _ O hl=>
   refine⟨a,rr,⟨vs,U.nh.seq O⟩,q _ g N1 U λi H2 s2=>⟨λd ed=>?_,λM=>⟨vs,s2.seq O,by rw[hl.length];exact M⟩⟩⟩;obtain⟨v,c,iv⟩:=hl.get ed;refine⟨⟨vs,v,s2.seq O,c⟩,λy l hy=>?_⟩;obtain⟨rfl,hy⟩:=hy;have:=hy vs (s2.seq O);rw[c]at this;cases this;exact⟨N1,.refl s2,iv⟩
noncomputable def fQ (lo:Int)(n:Nat):LD:=(List.range n).map λ(k:Nat)=>.int (lo+(k:Int))
theorem Gf {K:Frag}{B:Hp}(lo:Int)(n:Nat):lF K (Wi lo n) B (fQ lo n):=by
 intro i H s;unfold fQ;refine⟨λd ed=>?_,λhl=>by rw[vH,length_range]at hl;exact hl⟩;rw[uZ]at ed;obtain⟨k,ek,ed⟩:=oY ed;have hk:=vV ek;obtain⟨M,hk⟩:=hk;rw[length_range]at M;rw[List.getElem_range]at hk;subst hk;subst ed;refine⟨M,λx H' hy=>?_⟩;obtain⟨rfl,rfl⟩:=hy;exact⟨B,.refl s,.int _⟩
@[simp] def kX (f:FE):FA:=λρ=>match f ρ with
 |some (.int j,_)=>if -1000<=j/\j<=1000 then some (fQ 0 j.toNat)else none
 |_=>none
theorem xW (hm:X.mg "range" = none)(h:JE X a f)(O:Gl X "range":=by rfl)(hs:starEach [a] X.env=[(false,eval a X.env)]:=by rfl):PI X tg (.Call (.Name "range" p) [a] [] pos) (TM X.K (kX f)):=by
 refine PI.to (D3 O hm (gB h mS hs) hs) λσ H R q=>?_;obtain⟨B,ρ,ds,U,r,M,q⟩:=q;unfold kX at M;split at M
 .rename_i j b' c;split at M
  .cases M
   refine⟨B,ρ,[.int j],U,r,by simp[c],λvs d N1 g i1=>?_⟩;cases i1 with
   |cons i1 i2=>
    cases i1;cases i2
    exact⟨j,rr,N9,N9,q _ d N1 g λ_=>Gf 0 _⟩
  simp_all
 simp_all
theorem Gg (hm:X.mg "range" = none)(h:JE X a f)(M:Gl X "range")(hs:starEach [a] X.env=[(false,eval a X.env)]):JI X tg (.Call (.Name "range" p) [a] [] pos) (kX f):=
 PI.to (xW hm h M hs) λσ H R ⟨B,ρ,ds,O,r,U,q⟩=>⟨B,ρ,ds,O,r,U,λJ H' N x h=>q J H' N x (h _)⟩
end
def bM (K:Frag)(x:Str)(st:Stmt):Prop:=∃(f:Addr)(fd:FuncData),RJ K x x st f fd/\nsIn K mainGlobals x=some (some (.ref f))
theorem def_mk {K:Frag}{x:Str}{st:Stmt}{f:Addr}{oc:Value}{od an:Option Addr}{mM:Array (Option Value)}{kV doc pm cW ct:Value}(a:nsIn K mainGlobals x=some (some (.ref f)))
  (l:K.lookup f=some ⟨oc,od,.func (fnOf x x (eF st) (bC st) (a8 st) .none kV doc pm an cW ct),mM⟩) (c:PySem.W.codeIn K cW x=true) (k:PySem.W.keepIn K (.ref f)=true):bM K x st:=⟨f,_,Pm l c k,a⟩
section
variable {P:Program}{w:World}{K:Frag}{mg:SV}{base:Heap}
end
def Ux (H:Hp):Prop:=∀b,H b=none\/(∃o xs,H b=some (.frz o (.lst xs)))\/∃q,H b=some (.tbl q)
noncomputable def pU (M:List (Addr×Str))(G:Hp):Hp:=λb=>match M.lookup b with|some q=>some (.tbl q)|none=>G b
theorem eP (e:M.lookup b=some q):pU M G b=some (.tbl q):=by unfold pU;rw[e]
theorem gU (e:M.lookup b=none):pU M G b=G b:=by unfold pU;rw[e]
theorem DJ {P:Program}{w:World}{K:Frag}{mg mb:SV}{k:Nat}{fa a:Addr}{fd:FuncData}{x:Str}{sp:Sp}{M:Shared}{vs:LU}{ns:LI}(O:List (Addr×Str))
  (L:∀b q,O.lookup b=some q->M.heap.get? b=some (PySem.W.tabObj #[])/\isCodeTable M.heap b) (p:PySem.W.noTabs K=true)
  (t:K.In M.heap) (B:M.heap.Ns mainGlobals mg) (hb:M.heap.Ns builtinsNs mb) (y:∀x:Str,x ≠ "__name__"->mb x=bootBuiltins x) (N:M.heap.NoLimit)
  (ZN:∃bm ob,mg "__builtins__" = some (.ref bm)/\bm≠builtinsNs/\M.heap.get? bm=some ob/\ob.cls=.type "module"/\ob.dict=some builtinsNs/\ob.data=.plain) (Q:M.gens=#[])
  (ha:M.heap.get? a=some { cls:=.type "list",data:=.seq vs.toArray }) (hi:IntsAre vs ns) (hl:ns.length<=sizeLine) (hr:cV k callerA)
  (F:∀base:Heap,K.In base->base.Ns mainGlobals mg->mK P w K mg base xE k fa fd [x] sp) (R:∀(s:Shared)(u:Value),BindsTo s fd ⟨[u],[]⟩ [(x,u)])
  (S:∀H:Hp,(∀b q,O.lookup b=some q->H b=some (.tbl q))->dW K H a (ns.map V.int)->sp [.ref a] H (λv _=>v=.bl true) λ_ _ _=>False):
  codeAny (model P w) callerA (.call (.ref fa) ⟨[.ref a],[]⟩) (λr s'=>r=.ok (.ret (.bool true))/\OldK M.heap s'.heap/\s'.os=M.os/\AllBare s'.gens) M:=by
 have C:=L2.dY hi;have T:=hi.length;have D:∀H:Hp,Ux H->(∀b q,O.lookup b=some q->H b=some (.tbl q))->dW K H a (ns.map V.int)->kq P w H M.heap->(∀b q,H b=some (.tbl q)->M.heap.get? b=some (PySem.W.tabObj #[])/\isCodeTable M.heap b) ->
   (∀b o u,H b=some (.frz o u)->b=a)->(∀b o u,H b=some (.frz o u)->K.lookup b=none) ->
   codeAny (model P w) callerA (.call (.ref fa) ⟨[.ref a],[]⟩) (λr s'=>r=.ok (.ret (.bool true))/\OldK M.heap s'.heap/\s'.os=M.os/\AllBare s'.gens) M:=by
  intro H i X Y hok E hB Z;have noA:∀ {b:Addr}{o:Obj},M.heap.get? b=some o->(o.cls≠.none)->(o.cls≠.type "list")->H b=none:=λ{b o} e d d'=>by
   rcases i b with q|⟨ob,xs,q⟩|⟨u,q⟩
   .exact q
   .grind
   simp_all<;>lia
  have A:∀ {b:Addr}{o:Obj}{es:Array DictEntry}{j:Nat},M.heap.get? b=some o->o.data=.dict es j->H b=none:=λ{b o es j} e d=>by
   rcases i b with q|⟨ob,xs,q⟩|⟨u,q⟩
   .exact q
   .grind
   grind
  have l:∀ {b:Addr}{m:SV},M.heap.Ns b m->(x0 M.heap H).Ns b m:=λ{b m} ⟨o,es,j,e,d,r⟩=>⟨o,es,j,pG e (A e d),d,r⟩;have I:K.In (x0 M.heap H):=λb o e=>pG (t b o e) (by
   rcases i b with q|⟨ob,xs,q⟩|⟨u,q⟩
   .exact q
   .rw[Z b _ _ q]at e;cases e
   .have z:=(E b u q).1;rw[t b o e]at z;cases z
    have:=uQ p _ (PySem.W.mem_of_lookupK e);simp at this)
  have hM:Mod K mg (x0 M.heap H):=⟨I,l B,⟨mb,l hb,y⟩,let ⟨mc,h1,h2⟩:=N;⟨mc,l h1,h2⟩,by
   grind[pG]⟩
  have e0:Env0 P w K mg (x0 M.heap H) callerA [] M H:=⟨rr,hM,λb o e=>KN e,le_of_eq (D1 _ _),trivial,λb hb=>absurd (show b∈([]:List Addr)from hb) V9,hok,.of_eq Q⟩;refine codeAny_mono ((F _ I (l B)).run callerA [] M H ⟨[.ref a],[]⟩ [.ref a] [.ref a] _ _ hr e0 (R M (.ref a)) (.cons rr .nil) (S H X Y)) λr s' h=>?_;cases r with
  |error e=>exact False.elim h
  |ok fl=>
   cases fl with
   |next=>exact False.elim h
   |brk=>exact False.elim h
   |cont=>exact False.elim h
   |ret u=>
    obtain⟨v,H',os,bare,un,J,r',q⟩:=h;have f:v=.bl true:=q;subst f;obtain rfl:u=Value.bool true:=r';have kp:=λb o n e=>un.keep b o e n (by intro z;exact absurd (show b∈([]:List Addr)from z) V9) V9;refine⟨rr,⟨λb o e=>?_,λb o e=>un.there b o e V9⟩,os,bare⟩;rcases i b with z|⟨ob,xs,z⟩|⟨u,z⟩
    .exact .inl (kp b o z e)
    .have z2:=un.frzs b ob _ z;obtain⟨g,_⟩:=hok b _ z;obtain⟨e2,_⟩:=J b _ z2;rw[e]at g;cases g;exact .inl e2
    .obtain⟨g,e2⟩:=E b u z;rw[e]at g;cases g;obtain⟨ps,e3,_⟩:=J b _ (un.tbls b u z);exact .inr (.inl ⟨e2,rr,#[],ps,rr,by simpa using e3⟩)
 have RN:∀q,O.lookup a≠some q:=λq z=>by
  simp_all
 have ta:O.lookup a=none:=by
  cases z:O.lookup a with
  |none=>rfl
  |some q=>exact absurd z (RN q)
 have ZP:∀(G:Hp) b q,O.lookup b=some q->bc P w (pU O G) M.heap b (.tbl q):=λG b q z=>⟨#[],(L b q z).1,trivial,λpos cv c=>by cases c⟩;cases hk:K.lookup a with
 |some o=>
  have e:=t a o hk;rw[ha]at e;cases e
  refine D (pU O λ_=>none) (λb=>?_) (λb q z=>eP z) (.inr ⟨_,vs.toArray,_,hk,rr,rr,rr,by simp_all,by simpa using C⟩) (λb u z=>?_) (λb q z=>?_) (λb o u z=>?_) λb o u z=>?_
  all_goals cases U:O.lookup b with
   |none=>first|exact .inl (gU U)|(rw[gU U]at z;cases z)
   |some f=>first|exact .inr (.inr ⟨f,eP U⟩)|(rw[eP U]at z;cases z;done)|(rw[eP U]at z;grind)
 |none=>
  refine D (pU O λb=>if b=a then some _ else none) (λb=>?_) (λb q z=>eP z) (.inl (.inr ⟨{ cls:=.type "list",data:=.seq vs.toArray },by rw[gU ta,if_pos rr]⟩)) (λb u z=>?_) (λb q z=>?_) (λb o u z=>?_) λb o u z=>?_
  all_goals cases U:O.lookup b with
   |some f=>first|exact .inr (.inr ⟨f,eP U⟩)|(rw[eP U]at z;cases z;done)|(rw[eP U]at z;grind)
   |none=>
    first
    |rw[gU U]at z
    |rw[gU U]
    by_cases hb:b=a
    .first
     |rw[if_pos hb]at z
     |rw[if_pos hb]
     first
     |exact .inr (.inl ⟨_,_,rr⟩)
     | (cases z;subst hb;exact⟨ha,by rw[vH];exact hl,vs,_,C,ha⟩)
     |exact hb
     | (rw[hb];exact hk)
     |cases z
    .simp_all
noncomputable def vw (L:List (Str×Option (Addr×Addr))):List (Addr×Str):=L.filterMap λp=>p.2.map λq=>(q.2,sy p.1)
structure pF (K:Frag)(L:List (Str×Option (Addr×Addr))):Prop where
 names:L=jl.map λx=>(x,PySem.W.tabIn K x)
 apart:((vw L).map (·.1)).Nodup
 none:PySem.W.noTabs K=true
theorem kF {α M:Type}[BEq α][LawfulBEq α]:∀ {l:List (α×M)}{a:α}{b:M},(l.map (·.1)).Nodup->(a,b)∈l->l.lookup a=some b
 | (c,d)::l,a,b,nd,h=>by
  rw[lookup_cons];rcases vP h with e|h
  .cases e;simp
  .have ne:a≠c:=λz=>(nodup_cons.mp nd).1 (by grind);rw[show(a == c)=false by simpa using ne];exact kF (nodup_cons.mp nd).2 h
theorem jq {α M:Type}[BEq α][LawfulBEq α]:∀ {l:List (α×M)}{a:α}{b:M},l.lookup a=some b->(a,b)∈l
 | (c,d)::l,a,b,h=>by
  rw[lookup_cons]at h;cases e:a == c with
  |true=>simp_all
  |false=>rw[e]at h;exact mZ _ (jq h)
theorem pF.tb {K:Frag}{L:List (Str×Option (Addr×Addr))}(F:pF K L){H:Hp}(h:∀b q,(vw L).lookup b=some q->H b=some (.tbl q)):Tb K H:=λx hx c P e=>by
 refine h P _ (kF F.apart ?_);rw[F.names];exact mem_filterMap.mpr ⟨(x,PySem.W.tabIn K x),uR ⟨x,hx,rr⟩,by rw[e];rfl⟩
theorem tab_no {K:Frag}{x:Str}(e:nsIn K mainGlobals x=some none):PySem.W.tabIn K x=none:=by unfold PySem.W.tabIn;rw[e]
theorem tab_yes {K:Frag}{x:Str}{f c P:Addr}{oc O:Value}{od U:Option Addr}{mM M:Array (Option Value)}{fd:FuncData}{vs:AV}(a:nsIn K mainGlobals x=some (some (.ref f)))(e2:K.lookup f=some ⟨oc,od,.func fd,mM⟩)(b:fd.code=.ref c)
  (d:K.lookup c=some ⟨O,U,.fields vs,M⟩) (e:vs[11]? = some (.ref P)):PySem.W.tabIn K x=some (c,P):=by simp_all[PySem.W.tabIn]
theorem tabs_fit {K:Frag}{M O U a b:Option (Addr×Addr)}(h0:PySem.W.tabIn K "in_order" = M)(h1:PySem.W.tabIn K "has_seal" = O)(h2:PySem.W.tabIn K "is_first_death" = U)(h3:PySem.W.tabIn K "bases_by" = a)(h4:PySem.W.tabIn K "as_heard" = b)
  (ap:((vw [("in_order",M),("has_seal",O),("is_first_death",U),("bases_by",a),("as_heard",b)]).map (·.1)).Nodup) (nt:PySem.W.noTabs K=true):pF K [("in_order",M),("has_seal",O),("is_first_death",U),("bases_by",a),("as_heard",b)]:=
 ⟨by subst h0;subst h1;subst h2;subst h3;subst h4;rfl,ap,nt⟩
theorem bM.law {P:Program}{w:World}{K:Frag}{mg:SV}{x y:Str}{st:Stmt}{N:LS}{k:Nat}{g:FS}{h:Heap}{fa:Addr}(F:bM K x st)(X:K.In h)(G:h.Ns mainGlobals mg)(M:mg x=some (.ref fa))(S:FnScope N [y] (a8 st))
  (O:∀(kV doc pm:Value)(an:Option Addr)(cW ct:Value)(u:Value),bindArgs (fnOf x x (eF st) (bC st) (a8 st) .none kV doc pm an cW ct) ⟨[u],[]⟩=pure [(y,u)])
  (hb:∀(base:Heap),K.In base->base.Ns mainGlobals mg->∀(f:Addr)(cW:Value)(A:Around)(outer:List PySem.Env)(s:Shared)(H:Hp)(E:XK),cV k (A.deeper (envOfC x (a8 st) s.z f cW))->xx (oZ xE P w K mg base N x (a8 st) f cW A outer s H E).nox (bC st) g):
  ∃fd:FuncData,(∀(s:Shared)(u:Value),BindsTo s fd ⟨[u],[]⟩ [(y,u)])/\∀base:Heap,K.In base->base.Ns mainGlobals mg->mK P w K mg base xE (k+1) fa fd [y] (KA K (ax g 1 (N.length - 1))):=by
 obtain⟨f,fd,U,a⟩:=F;have e:=M.symm.trans (mg_of X G a);cases e
 refine⟨fd,λs u=>?_,λbase b c=>Ui U S (hb _ b c _)⟩;obtain⟨oc,od,kV,doc,pm,an,cW,ct,mM,rfl,d,i⟩:=U.ex;exact .of_eq (O kV _ pm an _ ct u)
section
variable {X:Cx}{a b e:Expr}{pos:Pos}{x:Str}{p:Pos}
@[simp] noncomputable def Uy:D->D->OB
 |.lst xs,.lst ys=>if xs.length+ys.length<=sizeLine then some (.lst (xs++ys),true)else none
 |_,_=>none
theorem Qb:cj X (binaryOp .Add) (rD X.K Uy):=by
 intro af s σ H x y v u Q I n r q;obtain⟨B,dx,dy,d,bb,c,t,w,U,q⟩:=q;cases t<;>try (cases U;done)
 all_goals (cases w<;>try (cases U;done))
 rename_i l vs ds h hl z A es h' O;simp only[Uy]at U;split at U
 .rename_i hz;cases U
  cases n
  cases r
  obtain⟨its,f,C,G⟩:=I.list (c.seq h);obtain⟨M,g,p2,J⟩:=I.list (c.seq h');obtain⟨⟨L,d1,N,s1⟩,i,D,n1,k1⟩:=C.isList;obtain⟨⟨c2,d2,P,s2⟩,j,e2,n2,k2⟩:=p2.isList;subst D;subst k1;subst e2;subst k2;have hsz:its.toArray.size+M.toArray.size<=sizeLine:=by
   rw[vG,vG,<-f.length,<-g.length,hl.length,O.length];exact hz
  have E:its.toArray++M.toArray=(its++M).toArray:=V9
  refine concat_meets ⟨_,i,rr⟩ ⟨_,j,rr⟩ noFill_list_add seq_list_add PySem.F.slot_list_add PySem.F.entry_list_add (PySem.F.args_list_add_2 _ _) (list_addW l z its.toArray M.toArray n1 n2 d1 d2 s1 s2 hsz) ⟨i,j,?_⟩;rw[E];have k:=Ext.laid (o:=.lst (vs++A)) c I.fresh;have m:=(hl.append O).mono k.bn;exact⟨.ref _,_,I.lnew (f.append g) (by rw[uY,hl.length,O.length];exact hz),rr,q _ _ _ k (.lst (dW.of aq) m) λ_=>⟨_,_,_,rr,rr,I.fresh,aq,m⟩⟩
 simp_all
@[simp] noncomputable def Ak:D->D->OB
 |.tup xs,.tup ys=>if xs.length+ys.length<=sizeLine/\xs.isEmpty=false then some (.tup (xs++ys),false)else none
 |_,_=>none
theorem Gh:cj X (binaryOp .Add) (rD X.K Ak):=by
 refine gH Li λx y H Q q=>?_;obtain⟨B,dx,dy,d,bb,U,g,i,O,q⟩:=q;cases g<;>try (cases O)
 all_goals (cases i<;>try (cases O))
 rename_i l vs ds h hl j c es h' M;simp only[Ak]at O;split at O
 .cases O
  have l1:=hl.length;have l2:=M.length;refine⟨l,j,vs,c,rr,rr,aK U h,aK U h',λz=>?_,N9,λz=>?_,λ_ pp hp=>?_⟩
  .grind
  .subst z;cases M
   rw[uP]at q;exact q.one U (.tup h hl)
  .have f:=Ext.laid (o:=.tup (vs++c)) U hp;exact q _ _ _ f (.tup (fL.of aq) ((hl.append M).mono f.bn)) V9
 simp_all
@[simp] noncomputable def X1:D->D->OB
 |.bl i,.int j=>some (.int ((if i=true then 1 else 0)+j),false)
 |.int i,.bl j=>some (.int (i+b2i j),false)
 |_,_=>none
theorem Qc:cj X (binaryOp .Add) (rD X.K X1):=by
 intro af s σ H x y v u Q I O U q;obtain⟨B,dx,dy,d,bb,c,f,g,M,q⟩:=q;cases f<;>try (cases M)
 all_goals (cases g<;>try (cases M;done))
 .cases M
  cases O
  obtain⟨t,rfl⟩:=U;exact IntBool.add_bool_int ⟨.int _,H,I.tok _,⟨_,rr⟩,q.one c (.int _)⟩
 .cases M
  exact D5 _ s σ H _ _ v u Q I O U ⟨_,_,rr,rr,q.one c (.int _)⟩
@[simp] noncomputable def dZ:D->D->OB
 |.int i,.int j=>some (.int (i+j),false)
 |.str i,.str j=>if i.length+j.length<=sizeLine then some (.str (i++j),false)else none
 |.lst xs,.lst ys=>if xs.length+ys.length<=sizeLine then some (.lst (xs++ys),true)else none
 |.tup xs,.tup ys=>if xs.length+ys.length<=sizeLine/\xs.isEmpty=false then some (.tup (xs++ys),false)else none
 |.bl i,.int j=>some (.int ((if i=true then 1 else 0)+j),false)
 |.int i,.bl j=>some (.int (i+b2i j),false)
 |_,_=>none
theorem Qd:cj X (binaryOp .Add) (rD X.K dZ):=by
 refine gH (kW LG (kW Qb (kW Gh Qc))) λx y H Q q=>?_;obtain⟨B,dx,dy,d,bb,M,O,U,c,q⟩:=q;refine⟨B,dx,dy,d,bb,M,O,U,?_,q⟩;cases dx<;>try (cases c)
 all_goals (cases dy<;>try (done))
 all_goals simp_all[PL]
@[simp] noncomputable def X2:D->Option Bool
 |.bl b=>some b
 |_=>none
def vx:LD->Option (List Bool)
 |[]=>some []
 |d::ds=>(X2 d).bind λb=>(vx ds).map (b :: ·)
@[simp] theorem Uz:vx []=some []:=rfl
@[simp] theorem Sv (d:D)(ds:LD):vx (d::ds)=(X2 d).bind λb=>(vx ds).map (b :: ·):=rfl
theorem vy {K:Frag}{B:Hp}:∀ {vs:LV}{ds:LD}{bs:List Bool}{its:LU},L2.aF vs its->IsL K B vs ds->vx ds=some bs->its=bs.map Value.bool
 |_,_,_,_,.nil,.nil,e=>by cases e;rfl
 |_,_,_,_,.cons r O,.cons i U,e=>by
  obtain⟨b,M,e⟩:=oX e;obtain⟨bs,e2,e⟩:=oY e;subst e;cases i<;>simp [X2]at M<;>try (cases M;done)
  cases M
  cases r
  rw[vy O U e2];rfl
@[simp] def U0:LD->OB
 |[.lst ds]=>(vx ds).map λbs=>(.bl (bs.all id),false)
 |_=>none
@[simp] def Qe:LD->OB
 |[.lst ds]=>(vx ds).map λbs=>(.bl (bs.any id),false)
 |_=>none
theorem U1 (hc:X.calm=true):bH X (.builtin "all") (Ae X.K U0):=by
 intro af s σ H xs us Q I m q;obtain⟨B,ds,d,bb,k,i,M,q⟩:=q;cases i with
 |nil=>cases M
 |cons i1 i=>
  cases i with
  |cons _ _=>cases i1<;>cases M
  |nil=>
   cases i1<;>try (cases M;done)
   rename_i l vs es h hl;obtain⟨bs,n,M⟩:=oY M;cases M
   obtain⟨C,rfl,r⟩:=fM m;cases r
   obtain⟨its,t,f,D⟩:=I.list (k.seq h);have ei:=vy t hl n;have u:l<s.z:=by obtain⟨_,O,_⟩:=f.isList;exact vX O
   refine call_all_walk (wpAny_pyIter_list f.isList ⟨_,_,_,_,_,_,λj=>(bs[j]?).getD true,rr,Walks.list (A:=X.A.in1) (I.ok.hd hc) _ l (vS u) _,⟨⟨_,vY _ rr,rr,rr⟩,f.isList.push _⟩,λj v s' E F w g=>?_,λh' tk hk=>?_⟩)
   .have U:=by simpa using w
    rw[ei,uZ]at U;obtain⟨c,y,e2⟩:=oY U;subst e2;dsimp only at g;rw[y]at g;exact wpAny_truthy_bool g
   .have z:((List.range its.toArray.size).all λj=>(bs[j]?).getD true)=bs.all id:=by
     simp_all[LSm.range_all]
    rw[z];refine⟨.bl _,H,I.kept λc o O=>?_,rr,q.one k (.bl _)⟩;exact hk c o (λhm=>by rw[uS hm]at O;exact Nat.lt_irrefl _ (vX O)) (vZ _ O)
theorem U2 (hc:X.calm=true):bH X (.builtin "any") (Ae X.K Qe):=by
 intro af s σ H xs us Q I m q;obtain⟨B,ds,d,bb,k,i,M,q⟩:=q;cases i with
 |nil=>cases M
 |cons i1 i=>
  cases i with
  |cons _ _=>cases i1<;>cases M
  |nil=>
   cases i1<;>try (cases M;done)
   rename_i l vs es h hl;obtain⟨bs,n,M⟩:=oY M;cases M
   obtain⟨C,rfl,r⟩:=fM m;cases r
   obtain⟨its,t,f,D⟩:=I.list (k.seq h);have ei:=vy t hl n;have u:l<s.z:=by obtain⟨_,O,_⟩:=f.isList;exact vX O
   refine call_any_walk (wpAny_pyIter_list f.isList ⟨_,_,_,_,_,_,λj=>(bs[j]?).getD false,rr,Walks.list (A:=X.A.in1) (I.ok.hd hc) _ l (vS u) _,⟨⟨_,vY _ rr,rr,rr⟩,f.isList.push _⟩,λj v s' E F w g=>?_,λh' tk hk=>?_⟩)
   .have U:=by simpa using w
    rw[ei,uZ]at U;obtain⟨c,y,e2⟩:=oY U;subst e2;dsimp only at g;rw[y]at g;exact wpAny_truthy_bool g
   .have z:((List.range its.toArray.size).any λj=>(bs[j]?).getD false)=bs.any id:=by
     simp_all[LSm.range_any]
    rw[z];refine⟨.bl _,H,I.kept λc o O=>?_,rr,q.one k (.bl _)⟩;exact hk c o (λhm=>by rw[uS hm]at O;exact Nat.lt_irrefl _ (vX O)) (vZ _ O)
theorem U3:bootBuiltins "any" = some (.builtin "any"):=H9
end
noncomputable def Wn (z:Str):It:=⟨λi _=>i<z.cps.size,λi H v H'=>H'=H/\∃c,z.cps[i]? = some c/\v=.str ⟨#[c]⟩,λi _=>z.cps.size<=i⟩
theorem xX {P:Program}{w:World}{K:Frag}{tg:Expr}(z:Str)(t:Tok)(it:Addr):Turn P w K tg (Wn z) [it] it (λi h=>h.IsStrIter it "str_ascii_iterator" z t i) where
 mem:=mem_singleton.mpr rr
 obj:=λi h st b hb=>by
  have g:=uS hb;obtain⟨o,O,_,d1⟩:=st;simp_all
 keep:=λi h h' st k=>let ⟨o,O,r⟩:=st;⟨o,k it (mem_singleton.mpr rr) o O,r⟩
 item:=by
  intro X j hw l hc i af s σ H E I hf st U;have m:i<z.cps.size:=U;obtain⟨a,f1,f2,d,e,f⟩:=hf it (mem_singleton.mpr rr);refine wpAny_pyNext_ascii_item st (c:=z.cps[i]) (by simp ) λh' M n=>?_;obtain⟨o,O,p,d1⟩:=id M;exact⟨_,rr,pH O p d1 Z9 ⟨.str _,H,I.turned (λb o hb e2=>(n.2 b hb).trans e2) a f1 d e f,⟨_,rr⟩,⟨rr,_,by simp ,rr⟩,M,λb hb=>(hf b hb).1⟩⟩
 done:=by
  intro X j hw l hc i af s σ H E I hf st U;have m:z.cps.size<=i:=U;obtain⟨a,f1,f2,d,e,f⟩:=hf it (mem_singleton.mpr rr);exact wpAny_pyNext_ascii_end (I.ok.hd hc) st Y9 λh' g=>⟨rr,I.turned (λb o hb e2=>g b o hb e2) a f1 d e f⟩
 self:=λ_ _ _ _ _ st h=>wpAny_pyIter_striter_ascii st h
theorem xY {P:Program}{w:World}{K:Frag}{tg:Expr}(z:Str)(t:Tok)(it:Addr):Turn P w K tg (Wn z) [it] it (λi h=>h.IsStrIter it "str_iterator" z t i) where
 mem:=mem_singleton.mpr rr
 obj:=λi h st b hb=>by
  have g:=uS hb;obtain⟨o,O,_,d1⟩:=st;simp_all
 keep:=λi h h' st k=>let ⟨o,O,r⟩:=st;⟨o,k it (mem_singleton.mpr rr) o O,r⟩
 item:=by
  intro X j hw l hc i af s σ H E I hf st U;have m:i<z.cps.size:=U;obtain⟨a,f1,f2,d,e,f⟩:=hf it (mem_singleton.mpr rr);refine wpAny_pyNext_wide_item st (c:=z.cps[i]) (by simp ) λh' M n=>?_;obtain⟨o,O,p,d1⟩:=id M;exact⟨_,rr,pH O p d1 Z9 ⟨.str _,H,I.turned (λb o hb e2=>(n.2 b hb).trans e2) a f1 d e f,⟨_,rr⟩,⟨rr,_,by simp ,rr⟩,M,λb hb=>(hf b hb).1⟩⟩
 done:=by
  intro X j hw l hc i af s σ H E I hf st U;have m:z.cps.size<=i:=U;obtain⟨a,f1,f2,d,e,f⟩:=hf it (mem_singleton.mpr rr);exact wpAny_pyNext_wide_end (I.ok.hd hc) st Y9 λh' g=>⟨rr,I.turned (λb o hb e2=>g b o hb e2) a f1 d e f⟩
 self:=λ_ _ _ _ _ st h=>wpAny_pyIter_striter_wide st h
section
variable {X:Cx}{a b e:Expr}{pos:Pos}{x:Str}{p:Pos}{tg:Expr}
theorem Gi {l:Expr}{tl:TE}(hl:PE X l tl):PI X tg l (λσ H R=>tl σ H λx M=>∃z,x=.str z/\R (Wn z) M):=by
 intro af s σ H R I h;refine bJ (hl _ s σ H _ I h) λv s1 ⟨x,M,O,U,c⟩=>?_;obtain⟨z,rfl,q⟩:=c;obtain⟨t,rfl⟩:=U;have fp:∀b∈[s1.z],kU X _ M b:=λb hb=>by
  rw[uS hb];exact O.fpOk (vT _) (O.hok.fresh (vT _))
 cases ha:z.cps.all _ with
 |true=>exact wpAny_pyIter_ascii ha ⟨_,[s1.z],_,_,M,rr,O.kept λb o e=>vZ _ e,xX z t _,⟨_,vY _ rr,rr,rr⟩,fp,q⟩
 |false=>exact wpAny_pyIter_wide ha ⟨_,[s1.z],_,_,M,rr,O.kept λb o e=>vZ _ e,xY z t _,⟨_,vY _ rr,rr,rr⟩,fp,q⟩
noncomputable def xZ (z:Str):LD:=z.cps.toList.map λc=>.str ⟨#[c]⟩
theorem Gj {K:Frag}{B:Hp}(z:Str):lF K (Wn z) B (xZ z):=by
 intro i H s;refine⟨λd ed=>?_,λhl=>by unfold xZ at hl;show z.cps.size<=i;simp_all⟩;unfold xZ at ed;rw[uZ]at ed;obtain⟨c,U,rfl⟩:=oY ed;have M:=by simpa using U
 refine⟨(Array.getElem?_eq_some_iff.mp M).1,λv H' hy=>?_⟩;obtain⟨rfl,f,O,rfl⟩:=hy;rw[M]at O;cases O;exact⟨B,.refl s,.str _⟩
@[simp] def Qf:D->Option LD
 |.lst ds=>some ds
 |.tup ds=>some ds
 |.str z=>some (xZ z)
 |_=>none
@[simp] def cb (f:FE):FA:=λρ=>(f ρ).bind λx=>Qf x.1
theorem Qg (h:JE X e f):JI X tg e (cb f):=by
 intro af s σ H R I q;obtain⟨B,ρ,ds,M,r,O,q⟩:=q;obtain⟨U,ex,es⟩:=oX O;obtain⟨xd,g⟩:=U;cases xd with
 |lst l=>exact BD h _ s σ H R I ⟨B,ρ,ds,M,r,by unfold Ge;rw[ex];exact es,q⟩
 |tup l=>exact BD h _ s σ H R I ⟨B,ρ,ds,M,r,by unfold Ge;rw[ex];exact es,q⟩
 |str z=>
  cases es
  refine Gi h _ s σ H R I ⟨B,ρ,_,_,M,r,ex,λv c N1 d i1 _=>?_⟩;cases i1
  exact⟨z,rr,q _ c N1 d (Gj z)⟩
 |_=>cases es
theorem LM:EY X (λx lo hi H Q=>∃z,x=.str z/\z.length<=sizeLine/\Q (.str (Txt.slice z lo hi)) H):=by
 intro af s σ H x v vl c lo hi sl Q I U hs pl O h;obtain⟨z,rfl,hz,q⟩:=h;obtain⟨t,rfl⟩:=U;have dv:∀lo hi,Q (.str (Txt.slice z lo hi)) H->(Txt.slice z lo hi).length<=sizeLine/\∀t' k,EP X af σ Q _ _:=λlo hi q=>
  ⟨vR (Txt.slice_le z _ _) hz,λt' k=>⟨.str _,H,I.tok k,⟨t',rr⟩,q⟩⟩
 refine⟨"str",_,PySem.F.slot_str_getitem.lookup,typeIs_str _ _ _,?_⟩;cases pl with
 |none=>
  cases O with
  |none=>exact wpAny_getItem_str_slice (l:=none) (u:=none) (st:=none) hs rr (post_val_or_str (dv _ _ q))
  |int j M=>exact wpAny_getItem_str_slice (l:=none) (u:=some (j,M)) (st:=none) hs rr (post_val_or_str (dv _ _ q))
 |int i ti=>
  cases O with
  |none=>exact wpAny_getItem_str_slice (l:=some (i,ti)) (u:=none) (st:=none) hs rr (post_val_or_str (dv _ _ q))
  |int j M=>exact wpAny_getItem_str_slice (l:=some (i,ti)) (u:=some (j,M)) (st:=none) hs rr (post_val_or_str (dv _ _ q))
theorem DK {A:Around}{E:QV}{s:Shared}{prog:Program}{w:World}{t sl:Addr}{items:AV}{vl d:Value}{lo hi:OI}{Q:QV}(M:IsTup s.heap t items)(hs:s.heap.IsSliceOf sl vl d .none)(pl:IsPart vl lo)(f:IsPart d hi)
  (h0:HT.cQ items.size 0 lo=0) (h1:HT.cQ items.size items.size hi=items.size) (h:Q (.ref t) s):wpAny (model prog w) A (getItem (.ref t) (.ref sl)) Q E s:=by
 obtain⟨os,O,U,i⟩:=id hs
 have g:s.TypeIs (.ref sl) _:=⟨os,O,U⟩
 unfold getItem
 try with_reducible refine wpAny_holding ?_
 refine wX (wpAny_sequenceKey M.typeIs Z9 ?_)
 refine wX (wpAny_callSpecial?_slot M.typeIs PyProof.Rows.slot_tuple_getitem (wpAny_call_entry PyProof.Rows.slot_tuple_getitem M.typeIs entry_tuple_getitem ?_ (args_tuple_getitem _ _)))
 show wpAny _ _ (Builtin.Tuple.tupleItemsOf _>>=_) _ _ s
 refine wX (tupleItemsOf_ M ?_)
 refine wX (wpAny_typeOf g ?_)
 refine wX (HT.gR hs pl f ?_)
 have c:(((HT.cQ items.size 0 lo:Nat):Int) == 0 && (1:Int) == 1 && (HT.cQ items.size items.size hi - HT.cQ items.size 0 lo) == items.size)=true:=by
  rw[h0,h1];simp
 show wpAny _ _ (if(((HT.cQ _ 0 lo:Nat):Int) == 0 && (1:Int) == 1 && (HT.cQ _ _ hi - HT.cQ _ 0 lo) == items.size)=true then _ else _) _ _ s
 rw[if_pos c]
 refine wX ?_
 refine wX (wpAny_typeOf M.typeIs (wY ?_))
 refine wX (wpAny_rule ?_)
 exact wY ⟨_,rr,wY h⟩
theorem LO:EY X (λx lo hi H Q=>∃a xs,x=.ref a/\fL X.K H a xs/\HT.cQ xs.length 0 lo=0/\HT.cQ xs.length xs.length hi=xs.length/\Q (.ref a) H):=by
 intro af s σ H x v vl d lo hi sl Q I U hs pl c h;obtain⟨a,xs,rfl,hx,h0,h1,q⟩:=h;cases U
 obtain⟨its,r,O,hz⟩:=I.tuple hx;have M:its.toArray.size=xs.length:=by exact r.length.symm
 refine⟨"tuple",_,PyProof.Rows.slot_tuple_getitem.lookup,O.typeIs,?_⟩;exact DK O hs pl c (by rw[M];exact h0) (by rw[M];exact h1) ⟨.ref a,H,I,rr,q⟩
@[simp] def sr (fa:FE)(fl M:FO):FE:=λρ=>(fa ρ).bind λx=>(fl ρ).bind λl=>(M ρ).bind λh=>match x.1 with
 |.lst ds=>some (.lst (jf ds l h),true)
 |.tup ds=>some (.tup (jf ds l h),false)
 |.str z=>if z.length<=sizeLine then some (.str (Txt.slice z l h),false)else none
 |_=>none
theorem Al {ds:LD}{lo hi:OI}(h0:HT.cQ ds.length 0 lo=0)(h1:HT.cQ ds.length ds.length hi=ds.length):jf ds lo hi=ds:=by
 unfold jf;rw[h0,h1];simp
theorem Gk {lo hi:Option Expr}{p2:Pos}{fa:FE}{fl g:FO}(ha:JE X e fa)(hl:JO X lo fl)(hh:JO X hi g):JE X (.Subscript e (.Slice lo hi none p2) pos) (sr fa fl g):=by
 refine PE.to (Fy (EY.or (EY.or Ll Ph) (EY.or LM LO)) ha hl hh) λσ H Q q=>?_;obtain⟨B,ρ,d,b,i,r,e,q⟩:=q;obtain⟨x,ex,e⟩:=oX e;obtain⟨l,j,e⟩:=oX e;obtain⟨h,k,e⟩:=oX e;refine⟨B,ρ,x.1,x.2,i,r,ex,λv n N1 M i1 _=>⟨N1,ρ,l,M.nh,r.mono M.bn,j,λH2 h2=>⟨N1,ρ,h,M.nh.trans h2,r.mono M.bn,k,λm h3=>?_⟩⟩⟩;have O:aD N1 m:=M.nh.trans (h2.trans h3);have c:=q.into (M.trans (.grow M.nh (h2.trans h3)));obtain⟨xd,s⟩:=x;cases i1 with
 |@tup f vs ds hs hv=>
  cases e
  by_cases hw:HT.cQ ds.length 0 l=0/\HT.cQ ds.length ds.length h=ds.length
  .rw[Al hw.1 hw.2]at c;exact .inr (.inr ⟨f,vs,rr,aK O hs,by rw[hv.length];exact hw.1,by rw[hv.length];exact hw.2,c.one O (.tup hs hv)⟩)
  .refine .inl (.inr ⟨f,vs,rr,aK O hs,by rw[hv.length];exact hw,λp hp=>?_⟩);have U:=Ext.laid (o:=.tup (su vs l h)) O hp;exact c _ _ _ U (.tup (fL.of aq) ((vt hv).mono U.bn)) V9
 |@lst f vs ds hs hv=>
  cases e
  refine .inl (.inl ⟨f,vs,rr,O.seq hs,λp hp=>?_⟩);have U:=Ext.laid (o:=.lst (su vs l h)) O hp;exact c _ _ _ U (.lst (dW.of aq) ((vt hv).mono U.bn)) λ_=>⟨p,_,_,rr,rr,hp,aq,(vt hv).mono U.bn⟩
 |str z=>
  dsimp only at e;split at e
  .rename_i hz;cases e
   exact .inr (.inl ⟨z,rr,hz,c.one O (.str _)⟩)
  simp_all
 |_=>cases e
theorem const_int {K:Frag}{y:Str}{i:Int}{t:Tok}(e:nsIn K mainGlobals y=some (some (.int i t))):∃u v,nsIn K mainGlobals y=some (some u)/\aG v u/\∀B,Is K B v (.int i):=⟨_,.int i,e,⟨t,rr⟩,λ_=>.int i⟩
noncomputable def vz:Value->D->Bool
 |.none,.non=>true
 |.bool a,.bl b=>a == b
 |.int i _,.int j=>decide (i=j)
 |.str i _,.str j=>decide (i=j)
 |_,_=>false
def iF:LU->LD->Bool
 |[],[]=>true
 |u::us,d::ds=>vz u d && iF us ds
 |_,_=>false
theorem jQ {K:Frag}{B:Hp}:∀ {u:Value}{d:D},vz u d=true->∃v,aG v u/\Is K B v d
 |.none,.non,_=>⟨.non,rr,.non⟩
 |.bool a,.bl b,h=>by
  have:=eq_of_beq h;subst this;exact⟨.bl a,rr,.bl a⟩
 |.int i t,.int j,h=>by
  have:=ET h;subst this;exact⟨.int i,⟨t,rr⟩,.int i⟩
 |.str i t,.str j,h=>by
  have:=ET h;subst this;exact⟨.str i,⟨t,rr⟩,.str i⟩
theorem iG {K:Frag}:∀ {us:LU}{ds:LD},iF us ds=true->∃vs,L2.aF vs us/\∀B,IsL K B vs ds
 |[],[],_=>⟨[],.nil,λ_=>.nil⟩
 |u::us,d::ds,h=>by
  rw[iF,vB]at h;obtain⟨vs,r,i⟩:=iG h.2;obtain⟨v,O,_⟩:=jQ (K:=K) (B:=λ_=>none) h.1;refine⟨v::vs,.cons O r,λB=>?_⟩;obtain⟨U,M,c⟩:=jQ h.1;have:U=v:=by have f:=O.abs;rw[M.abs]at f;simp_all
  subst this;exact .cons c (i B)
theorem const_tup {K:Frag}{y:Str}{a:Addr}{od:Option Addr}{its:AV}{n:Nat}{mM:Array (Option Value)}{ds:LD}(e:nsIn K mainGlobals y=some (some (.ref a)))
  (l:K.lookup a=some ⟨.type "tuple",od,.seq its n,mM⟩) (h:(decide (its.size<=1000) && iF its.toList ds)=true):∃u v,nsIn K mainGlobals y=some (some u)/\aG v u/\∀B,Is K B v (.tup ds):=by
 rw[vB]at h;obtain⟨vs,r,i⟩:=iG h.2;exact⟨_,.ref a,e,rr,λB=>.tup (.inr ⟨_,its,n,l,rr,rr,le_of_lt (lt_of_le_of_lt (ET h.1) Z9),r⟩) (i B)⟩
end
section
variable {X:Cx}{a b o e:Expr}{pos:Pos}{x:Str}{p:Pos}{tg:Expr}
theorem Qh {name:Str}{id:String}{bQ bq:Pos}{op:D->D->OB}{fo fe:FE}(slot:Slot "str" name id)(i:typeOf (.builtin id)=pure (.type "method_descriptor"))
  (hm:K8 X id (λx xs H Q=>∃y,xs=[y]/\rD X.K op x y H Q)) (j:∀dx dy r,op dx dy=some r->∃z,dx=.str z) (ho:JE X o fo) (he:JE X e fe)
  (M:attributeBase o name X.env (eval o X.env)=eval o X.env)
  (k:((backTo bq (starEach [e] X.env)).all (λx=>!x.1) && (backToKw bq (keywordEach [] X.env)).all (λx=>x.1.isSome)
   && decide ([e].length+([]:List Keyword).length+(if([]:List Keyword).isEmpty then 0 else 1)<30))=true)
  (O:(bQ.endLine == bq.line)=true) (hs:starEach [e] X.env=[(false,eval e X.env)]):
  JE X (.Call (.Attribute o name bQ) [e] [] bq) (f2 op fo fe):=by
 refine PE.to (xD PySem.F.plainAttrs_str slot i hm ho (cF he dX hs) M k O hs rr) λσ H Q q=>?_;obtain⟨B,ρ,d,bb,l,r,c,q⟩:=q;obtain⟨g,ex,c⟩:=oX c;obtain⟨f,m,c⟩:=oX c;obtain⟨z,hz⟩:=j _ _ _ c;refine⟨B,ρ,g.1,g.2,l,r,ex,λv s N1 U i1 _=>?_⟩;rw[hz]at i1;cases i1
 refine⟨show "str" = "str" from rr,N1,ρ,f.1,f.2,U.nh,r.mono U.bn,m,λn H2 N2 h i2 _=>⟨n,rr,N2,.str z,f.1,d,bb,h.nh,.str z,i2,by rw[<-hz];exact c,q.into (U.trans h)⟩⟩
@[simp] noncomputable def Qi:D->Option Str
 |.str z=>some z
 |_=>none
def eQ:LD->Option LS
 |[]=>some []
 |d::ds=>(Qi d).bind λz=>(eQ ds).map (z :: ·)
@[simp] theorem Sw:eQ []=some []:=rfl
@[simp] theorem Qj (d:D)(ds:LD):eQ (d::ds)=(Qi d).bind λz=>(eQ ds).map (z :: ·):=rfl
@[simp] theorem Sx (zs:LS):eQ (zs.map D.str)=some zs:=by
 induction zs with
 |nil=>rfl
 |cons z zs M=>simp[M]
theorem fR {K:Frag}{B:Hp}:∀ {vs:LV}{ds:LD}{zs:LS}{its:LU},L2.aF vs its->IsL K B vs ds->eQ ds=some zs->StrsAre its zs
 |_,_,_,_,.nil,.nil,e=>by cases e;exact .nil
 |_,_,_,_,.cons r O,.cons i U,e=>by
  obtain⟨z,M,e⟩:=oX e;obtain⟨zs,e2,e⟩:=oY e;subst e;cases i<;>simp [Qi]at M<;>try (cases M;done)
  cases M
  obtain⟨t,rfl⟩:=r;exact .cons _ t (fR O U e2)
@[simp] def Gm:D->D->OB
 |.str M,.lst ds=>(eQ ds).bind λzs=>if(zs.map (·.length)).sum+zs.length*M.length<=16777216 then some (.str (Txt.join M zs),false)else none
 |.str M,.tup ds=>(eQ ds).bind λzs=>if(zs.map (·.length)).sum+zs.length*M.length<=16777216 then some (.str (Txt.join M zs),false)else none
 |_,_=>none
theorem Qk:K8 X "str.join" (λx xs H Q=>∃y,xs=[y]/\rD X.K Gm x y H Q):=by
 intro af s σ H x xs v us Q I i j h;obtain⟨y,rfl,B,dx,dy,d,bb,O,l,m,M,q⟩:=h;obtain⟨r,rfl,g⟩:=fM j;cases l<;>(try (simp at M))
 obtain⟨t,rfl⟩:=i;cases m<;>(try (simp at M;done))
 .rename_i h hl;obtain⟨zs,U,M⟩:=oX M;split at M
  .rename_i hok;cases M
   cases g
   obtain⟨its,c,f,n⟩:=I.tuple (aK O h);exact join_tuple f (by simpa using fR c hl U) hok λt' k=>⟨.str _,H,I.tok k,⟨t',rr⟩,q.one O (.str _)⟩
  simp_all
 .rename_i h hl;obtain⟨zs,U,M⟩:=oX M;split at M
  .rename_i hok;cases M
   cases g
   obtain⟨its,c,f,n⟩:=I.list (O.seq h);exact join_list f.isList (by simpa using fR c hl U) hok λt' k=>⟨.str _,H,I.tok k,⟨t',rr⟩,q.one O (.str _)⟩
  simp_all
theorem Gn (dx dy:D)(r:D×Bool)(h:Gm dx dy=some r):∃z,dx=.str z:=by
 cases dx<;>first|exact⟨_,rr⟩|(cases dy<;>simp at h)
noncomputable def fT:LN->LD->Env->Option Env
 |[],[],ρ=>some ρ
 |i::is,d::ds,ρ=>fT is ds (ρ.set i (some (d,false)))
 |_,_,_=>none
@[simp] theorem Sy (ρ:Env):fT [] [] ρ=some ρ:=by rw[fT]
@[simp] theorem Am (i:Nat)(is:LN)(d:D)(ds:LD)(ρ:Env):fT (i::is) (d::ds) ρ=fT is ds (ρ.set i (some (d,false))):=by rw[fT]
@[simp] theorem U4 (d:D)(ds:LD)(ρ:Env):fT [] (d::ds) ρ=none:=by simp only[fT]
@[simp] theorem U5 (i:Nat)(is:LN)(ρ:Env):fT (i::is) [] ρ=none:=by simp only[fT]
@[simp] def DM (is:LN):FG:=λd ρ=>match d with|.tup ds=>fT is ds ρ|_=>none
def iH:LN->NH
 |[]=>Tk
 |i::is=>NI (gQ i) (iH is)
theorem Go:aD (cR N (own σ ρ)) (cR N (own (σ.set i (some v)) (ρ.set i (some (d,false))))):=cY λa u e q=>⟨e,λz=>q (by
 rcases p4 z with⟨_,d',p⟩|⟨j,_,d',M,q2⟩
 .cases p
 .exact⟨j,d',M,q2⟩)⟩
theorem jR {K:Frag}:∀ {is:LN}{vs:LV}{ds:LD}{B0 H0 N H:Hp}{σ:St}{ρ ρ':Env}{Q:St->Hp->Prop},cH K B0 H0 N H σ ρ->IsL K (cR N (own σ ρ)) vs ds->fT is ds ρ=some ρ'->(∀M,cH K B0 H0 N H M ρ'->Q M H)->iH is vs σ H Q
 |[],_,_,_,_,_,_,_,_,_,_,s,.nil,e,k=>by
  cases e
  exact⟨rr,k _ s⟩
 |[],_,_,_,_,_,_,_,_,_,_,_,.cons _ _,e,_=>by simp at e
 |_::_,_,_,_,_,_,_,_,_,_,_,_,.nil,e,_=>by simp at e
 |i::is,_,_,_,_,_,_,_,_,_,_,s,.cons h hs,e,k=>by
  exact⟨_,_,rr,jR (s.bind h) (hs.mono Go) e k⟩
theorem jS:∀ {is:LN}{ds:LD}{ρ ρ':Env},fT is ds ρ=some ρ'->ds.length=is.length
 |[],[],_,_,_=>rr
 |_::_,_::_,_,_,e=>by rw[Am]at e;simp[jS e]
 |[],_::_,_,_,e=>by simp at e
 |_::_,[],_,_,e=>by simp at e
theorem U6 {K:Frag}{is:LN}:K9 K (DM is) (Fk K is.length (iH is)):=by
 intro B0 H0 N H σ ρ ρ' v d Q s h e k;cases h with
 |@tup a vs ds O hl=>
  have M:=e;exact⟨a,vs,rr,aK (br.trans s.ext.nh) O,by rw[hl.length];exact jS M,jR s hl M λU s'=>k _ H ⟨N,s'⟩⟩
 |_=>cases e
theorem t8 {K:Frag}{n:Nat}{B H:Hp}{M:Env}{Q:St->Hp->Prop}(cl:∀i,i<n->M[i]? = some none):∀ {is:LN}{vs:LV}{ds:LD}{σ:St}{ρ U:Env},(∀i∈is,i<n)->dR K B σ ρ->IsL K B vs ds->fT is ds ρ=some U->ρ.length=σ.length->ρ.length=M.length ->
  (∀O,dR K B O U->(∀c,dR K c σ M->dR K c O M)->M.length=O.length->Q O H)->iH is vs σ H Q
 |[],_,_,_,_,_,_,rp,.nil,e,l1,l2,k=>by
  cases e
  exact⟨rr,k _ rp (λ_ z=>z) N9⟩
 |[],_,_,_,_,_,_,_,.cons _ _,e,_,_,_=>by simp at e
 |_::_,_,_,_,_,_,_,_,.nil,e,_,_,_=>by simp at e
 |i::is,_,_,σ,ρ,_,hn,rp,.cons h hs,e,l1,l2,k=>by
  have hi:=hn i mX;have m:i<σ.length:=by
   grind
  refine⟨_,_,rr,t8 cl (λj hj=>hn j (mZ _ hj)) ⟨rp.tb,λj d b q=>?_⟩ hs e (by simpa using l1) (by simpa using l2) λO f g l=>k _ f (λc z=>g c ⟨z.tb,λj d b q=>?_⟩) l⟩
  .rcases bF q with⟨rfl,pp⟩|⟨ne,pp⟩
   .simp_all
   .obtain⟨w,h1,h2⟩:=rp.at' j d b pp;simp_all
  .obtain⟨w,h1,h2⟩:=z.at' j d b q;have ne:i≠j:=λz=>by grind
   exact⟨w,by simp_all,h2⟩
theorem Gp {K:Frag}{n:Nat}{is:LN}(hn:∀i∈is,i<n):Lz K n (DM is) (Fk K is.length (iH is)):=by
 intro B H σ ρ O v d Q cl rep s h e hl k;cases h with
 |@tup a vs ds U hv=>
  have M:=e;exact⟨a,vs,rr,aK s U,by rw[hv.length];exact jS M,t8 cl hn rep hv M hl rr k⟩
 |_=>cases e
end
section
variable {prog:Program}{w:World}{A:Around}{E:QV}{s:Shared}
theorem An (st:s.heap.IsTupleIter it l i)(M:s.heap.IsTuple l items)(hv:items[i]? = some v)
  (k:∀h',h'.IsTupleIter it l (i+1)->Heap.SameBut it s.heap h'->Q v { s with heap:=h' }):wpAny (model prog w) A (Builtin.SmallTypes.nextOf (.ref it)) Q E s:=by
 obtain⟨a,g1,O,d1⟩:=id st;obtain⟨b,U,_,n2,d2⟩:=M;refine wX (wpAny_callSpecial?_slot st.typeIs slot_tuple_iterator_next (wpAny_call_entry slot_tuple_iterator_next st.typeIs PySem.F.entry_tuple_iterator_next ?_ (PySem.F.args_tuple_iterator_next_1 _)));show wpAny _ _ (field _ 0>>=_) _ _ _;refine wX (wpAny_field g1 d1 rr ?_);refine wX (wpAny_field g1 d1 rr ?_);refine wX (wpAny_seqItems U d2 ?_);simp [hv,Int.toNat_natCast];refine wX (wpAny_setField g1 d1 V9 (wY ⟨v,rr,wY (k _ ?_ (vW ..))⟩));exact⟨_,Heap.get?_update_self _ g1 (Obj.isFreed_of_fields (Obj.data_mapFields d1 _)),(Obj.cls_mapFields ..).trans O,by rw[Obj.data_mapFields d1];simp[rawInt]⟩
theorem DN (M:A.handled=none)(st:s.heap.IsTupleIter it l i)(O:s.heap.IsTuple l items)(hv:items[i]? = none)
  (k:∀h' x,Heap.ExtBut it s.heap h'->(∃o,h'.get? x=some o/\o.cls=.type "StopIteration")->E (.ref x) { s with heap:=h' }):wpAny (model prog w) A (Builtin.SmallTypes.nextOf (.ref it)) Q E s:=by
 obtain⟨a,g1,b,d1⟩:=id st;obtain⟨c,U,_,n2,d2⟩:=O;refine wX (wpAny_callSpecial?_slot st.typeIs slot_tuple_iterator_next (wpAny_call_entry slot_tuple_iterator_next st.typeIs PySem.F.entry_tuple_iterator_next ?_ (PySem.F.args_tuple_iterator_next_1 _)));show wpAny _ _ (field _ 0>>=_) _ _ _;refine wX (wpAny_field g1 d1 rr ?_);refine wX (wpAny_field g1 d1 rr ?_);refine wX (wpAny_seqItems U d2 ?_);simp [hv,Int.toNat_natCast];refine wX (wpAny_rule (wX (wpAny_setField g1 d1 V9 ?_)));refine wX ?_;refine wX (m:=firstArgMember _ _) (wpAny_of_eq I9 ?_);refine wpAny_newObj_type ?_ s9;refine wX (wpAny_handled ?_);first|rw[M]|rw[show A.in1.handled=none from M]
 exact wX (wY (wpAny_throw (k _ _ (((vW ..).extBut.push _).push _) ⟨_,vY _ rr,rr⟩)))
end
def jT:Bool->Heap->Addr->Addr->Nat->Prop
 |true,h,it,a,i=>h.IsListIter it a i
 |false,h,it,a,i=>h.IsTupleIter it a i
def jU:Bool->Heap->Addr->AV->Prop
 |true,h,a,items=>h.IsList a items
 |false,h,a,items=>h.IsTuple a items
def kG (k:Bool)(K:Frag)(H:Hp)(a:Addr)(xs:LV):Prop:=match k with|true=>dW K H a xs|false=>fL K H a xs
theorem jT.ob (st:jT k h it a i):∃o,h.get? it=some o/\∀v,o.data≠.cell v:=by
 cases k<;>(obtain⟨o,g,_,d⟩:=st;simp_all)
theorem jT.upon (st:jT k h it a i)(g:∀o,h.get? it=some o->h'.get? it=some o):jT k h' it a i:=by
 cases k<;>(obtain⟨o,e,r⟩:=st;exact⟨o,g o e,r⟩)
theorem jU.upon (st:jU k h a items)(g:∀o,h.get? a=some o->h'.get? a=some o):jU k h' a items:=by
 cases k<;>(obtain⟨o,e,r⟩:=st;exact⟨o,g o e,r⟩)
theorem jU.lt (st:jU k h a items):a<h.objs.size:=by
 cases k<;>(obtain⟨o,e,r⟩:=st;exact vX e)
theorem kG.same {k:Bool}{K:Frag}{H H':Hp}{a:Addr}{xs:LV}(h:kG k K H a xs)(e:aD H H'):kG k K H' a xs:=by
 cases k
 .exact aK e h
 .exact e.seq h
theorem kG.vals (I:Inv X af σ H s)(h:kG k X.K H a xs):∃its:LU,aF xs its/\jU k s.heap a its.toArray/\xs.length<=sizeLine:=by
 cases k
 .exact I.tuple h
 .obtain⟨its,r,p,z⟩:=I.list h;exact⟨its,r,p.isList,z⟩
theorem kG.inj (I:Inv X af σ H s)(h:kG k X.K H a xs)(h':kG k X.K H a ys):xs=ys:=by
 cases k
 .exact I.tuple_inj h h'
 .exact I.list_inj h h'
section
variable {prog:Program}{w:World}{A:Around}{E:QV}{s:Shared}
theorem ej (st:jT k s.heap it l i)(M:jU k s.heap l items)(hv:items[i]? = some v)
  (q:∀h',jT k h' it l (i+1)->Heap.SameBut it s.heap h'->Q v { s with heap:=h' }):wpAny (model prog w) A (Builtin.SmallTypes.nextOf (.ref it)) Q E s:=by
 cases k
 .exact An st M hv q
 .exact wpAny_nextOf_list_item st M hv q
theorem gV (M:A.handled=none)(st:jT k s.heap it l i)(O:jU k s.heap l items)(hv:items[i]? = none)
  (q:∀h' x,Heap.ExtBut it s.heap h'->(∃o,h'.get? x=some o/\o.cls=.type "StopIteration")->E (.ref x) { s with heap:=h' }):wpAny (model prog w) A (Builtin.SmallTypes.nextOf (.ref it)) Q E s:=by
 cases k
 .exact DN M st O hv q
 .exact wpAny_nextOf_list_end M st O hv q
end
noncomputable def LP (k:Bool)(l:Addr):Obj:={ cls:=.type (if k=true then "list_iterator" else "tuple_iterator"),data:=.fields #[.ref l,.int 0 0] }
theorem lL (M:jU k s.heap l items)
  (q:Q (.ref s.z) { s with heap:=s.heap.push (LP k l) }):wpAny (model prog w) A (pyIter (.ref l)) Q E s:=by
 cases k
 .exact wpAny_pyIter_tuple M q
 .exact wpAny_pyIter_list M q
theorem jU.push (st:jU k h a items)(o:Obj):jU k (h.push o) a items:=st.upon λ_ e=>vZ _ e
section
variable (k1 k2:Bool) (h:Heap) (l1 l2:Addr)
abbrev zA:Heap:=h.push (LP k1 l1)
abbrev zB:Heap:=(zA k1 h l1).push (LP k2 l2)
abbrev zC:Heap:=(zB k1 k2 h l1 l2).push { cls:=.type "tuple",data:=.seq #[.ref h.objs.size,.ref (zA k1 h l1).objs.size] }
abbrev zD:Heap:=(zC k1 k2 h l1 l2).push { cls:=.type "tuple",data:=.seq #[.none,.none] }
abbrev zE:Heap:=(zD k1 k2 h l1 l2).push { cls:=.type "zip",data:=.fields #[.none,.bool false,.bool false,.ref (zB k1 k2 h l1 l2).objs.size,.ref (zC k1 k2 h l1 l2).objs.size] }
end
theorem Ao (k1 k2:Bool)(l1 l2:Addr)(xs ys:AV):Meets (Builtin.«zip.__new__» ⟨[.type "zip",.ref l1,.ref l2],[]⟩) (λ_ R s=>jU k1 s.heap l1 xs/\jU k2 s.heap l2 ys /\
   R (.ok (.ret (.ref (zD k1 k2 s.heap l1 l2).objs.size))) { s with heap:=zE k1 k2 s.heap l1 l2 }):=
 .of_wp λprog w A R s hs=>by
  obtain⟨hp,g,d,tk,os⟩:=s;obtain⟨O,q2,hs⟩:=hs;have M:=sub_zip;have U:=O;have p2:jU k2 (Shared.heap ⟨hp.push (LP k1 l1),g,d,tk,os⟩) l2 ys:=jU.push q2 _;wp_walk using lL U,lL p2;exact⟨_,rr,hs⟩
section
variable {prog:Program}{w:World}{A:Around}{E:QV}{s:Shared}
theorem BE (h:jU k1 s.heap l1 xs)(q2:jU k2 s.heap l2 ys)
  (q:∀h',IsZip h' (s.z+4) (s.z+2) (s.z+3) .none->IsPair h' (s.z+2) (.ref s.z) (.ref (s.z+1))->IsPair h' (s.z+3) .none .none ->
   jT k1 h' s.z l1 0->jT k2 h' (s.z+1) l2 0->(∀c o,s.heap.get? c=some o->h'.get? c=some o)->Q (.ref (s.z+4)) { s with heap:=h' }):
  wpAny (model prog w) A (call (.type "zip") [.ref l1,.ref l2]) Q E s:=by
 refine callType_new PySem.F.called_zip Z9 (PySem.F.typeCall_zip_2 _ _) (PySem.F.newCall_zip_2 _ _) (λobj=>PySem.F.args_object_init_3 obj _ _) PySem.F.entry_zip_new (Ao k1 k2 l1 l2 xs ys) ⟨h,q2,?_⟩;have n1:(zA k1 s.heap l1).objs.size=s.z+1:=Heap.size_push ..;have n2:(zB k1 k2 s.heap l1 l2).objs.size=s.z+2:=by rw[Heap.size_push,n1]
 have n3:(zC k1 k2 s.heap l1 l2).objs.size=s.z+3:=by rw[Heap.size_push,n2]
 have n4:(zD k1 k2 s.heap l1 l2).objs.size=s.z+4:=by rw[Heap.size_push,n3]
 have O:∀ {c o},(zD k1 k2 s.heap l1 l2).get? c=some o->(zE k1 k2 s.heap l1 l2).get? c=some o:=λe=>vZ _ e;have U:∀ {c o},(zC k1 k2 s.heap l1 l2).get? c=some o->(zE k1 k2 s.heap l1 l2).get? c=some o:=λe=>O (vZ _ e);have a:∀ {c o},(zB k1 k2 s.heap l1 l2).get? c=some o->(zE k1 k2 s.heap l1 l2).get? c=some o:=λe=>U (vZ _ e);have b:∀ {c o},(zA k1 s.heap l1).get? c=some o->(zE k1 k2 s.heap l1 l2).get? c=some o:=λe=>a (vZ _ e);have i:∀ {c o},s.heap.get? c=some o->(zE k1 k2 s.heap l1 l2).get? c=some o:=λe=>b (vZ _ e);have M:(zE k1 k2 s.heap l1 l2).get? _=some _:=vY _ rr;have d:=O (vY _ rr);have f:=U (vY _ rr);have g:=a (vY _ (by cases k2<;>rfl))
 have g1:=b (vY _ (by cases k1<;>rfl))
 rw[n2,n3,n4]at M;rw[n1,n2]at f;rw[n3]at d;rw[n1]at g;show _/\_;rw[n4];refine⟨⟨_,M,rr⟩,q _ M f d ?_ ?_ λc o e=>i e⟩
 .cases k1<;>exact⟨_,g1,rr,rr⟩
 .cases k2<;>exact⟨_,g,rr,rr⟩
structure ZApart (z TI TO i1 i2:Addr):Prop where
 tz:TI≠z
 oz:TO≠z
 az:i1≠z
 bz:i2≠z
 oa:TO≠i1
 ob:TO≠i2
 to:TI≠TO
 ta:TI≠i1
 tb:TI≠i2
 ab:i1≠i2
theorem ya {k1 k2:Bool}{z TI TO i1 i2 l1 l2:Addr}{j:Nat}{xs ys:AV}{x y a b:Value}{Q:QV}(D:ZApart z TI TO i1 i2)(m1:l1≠z/\l1≠TO/\l1≠i1)(m2:l2≠z/\l2≠TO/\l2≠i1/\l2≠i2)
  (hz:IsZip s.heap z TI TO .none) (T:IsPair s.heap TI (.ref i1) (.ref i2)) (V:IsPair s.heap TO a b) (W:jT k1 s.heap i1 l1 j) (X:jT k2 s.heap i2 l2 j) (Y:jU k1 s.heap l1 xs) (q2:jU k2 s.heap l2 ys) (hx:xs[j]? = some x) (hy:ys[j]? = some y)
  (q:∀h',IsZip h' z TI TO (rawInt s.z)->IsPair h' TO x y->jT k1 h' i1 l1 (j+1)->jT k2 h' i2 l2 (j+1)->IsPair h' s.z x y->h'.objs.size=s.z+1 ->
   (∀c o,c≠z->c≠TO->c≠i1->c≠i2->s.heap.get? c=some o->h'.get? c=some o)->Q (.ref s.z) { s with heap:=h' }):
  wpAny (model prog w) A (Builtin.«zip.__next__» ⟨[.ref z],[]⟩) (λdv s'=>∃v,dv=.done (.ret v)/\Q v s') E s:=by
 show wpAny _ _ (field (.ref z) 2>>=_) _ _ s;refine wX (wpAny_field hz rr (x:=.bool false) rr ?_);show wpAny _ _ (field (.ref z) 3>>=_) _ _ s;refine wX (wpAny_field hz rr (x:=.ref TI) rr (wX (wpAny_seqItems T rr ?_)));refine wX ?_;unfold Builtin.SmallTypes.ownedTupleIsFree;refine wX (wpAny_field hz rr (x:=.none) rr (wY ?_));simp only[if_true];refine wX (wpAny_rule (wX (wpAny_field hz rr (x:=.ref TO) rr (wX (wpAny_setField_rec hz V9 λg1 d s1=>?_)))));replace d:IsZip g1 z TI TO .ellipsis:=d;refine wX ?_;refine wX (wX (wpAny_onRaise ?_));refine wX (ej (s:={ s with heap:=g1 }) (W.upon λo e=>s1.extBut _ _ D.az e) (Y.upon λo e=>s1.extBut _ _ m1.1 e) hx λZ n s2=>wY ?_);have K:IsPair Z TO a b:=s2.extBut _ _ D.oa (s1.extBut _ _ D.oz V);refine wX (wpAny_seqItems K rr (wX (wpAny_updateSeq_pair K λp f k=>?_)));replace f:IsPair p TO x b:=f;refine wX (wpAny_letGo (wY (wX (wX (wpAny_onRaise ?_)))));have r:∀ {c o},c≠z->c≠TO->c≠i1->s.heap.get? c=some o->p.get? c=some o:=λO c2 c3 e=>k.extBut _ _ c2 (s2.extBut _ _ c3 (s1.extBut _ _ O e));refine wX (ej (s:={ s with heap:=p }) (X.upon λo e=>r D.bz D.ob.symm D.ab.symm e) (q2.upon λo e=>r m2.1 m2.2.1 m2.2.2.1 e) hy λg4 t g=>wY ?_);have L:IsPair g4 TO x b:=g.extBut _ _ D.ob f;refine wX (wpAny_seqItems L rr (wX (wpAny_updateSeq_pair L λM U h=>?_)));replace U:IsPair M TO x y:=U;refine wX (wpAny_letGo (wY (wY (wX (wpAny_seqItems U rr (wX (wpAny_newTuple ?_)))))));have sz:M.objs.size=s.z:=by rw[h.1,g.1,k.1,s2.1,s1.1]
 have u:∀c o,c≠z->c≠TO->c≠i1->c≠i2->s.heap.get? c=some o->M.get? c=some o:=λc o O c2 c3 B e=>h.extBut _ _ c2 (g.extBut _ _ B (r O c2 c3 e));have N:IsZip M z TI TO .ellipsis:=h.extBut _ _ D.oz.symm (g.extBut _ _ D.bz.symm (k.extBut _ _ D.oz.symm (s2.extBut _ _ D.az.symm d)));have C:jT k1 M i1 l1 (j+1):=n.upon λo e=>h.extBut _ _ D.oa.symm (g.extBut _ _ D.ab (k.extBut _ _ D.oa.symm e));have F:jT k2 M i2 l2 (j+1):=t.upon λo e=>h.extBut _ _ D.ob.symm e;have P:z<M.objs.size:=vX N;refine wX ?_;unfold Builtin.SmallTypes.ownedTupleHandOut;have G:IsZip (M.push { cls:=.type "tuple",data:=.seq #[x,y] }) z TI TO .ellipsis:=vZ _ N;refine wX (wpAny_setField_rec G V9 λg7 H I=>?_);refine wpAny_setField_rec H V9 λl i J=>?_;have m:∀c o,c≠z->M.get? c=some o->l.get? c=some o:=λc o O e=>J.extBut _ _ O (I.extBut _ _ O (vZ _ e));have R:IsPair l M.objs.size x y:=J.extBut _ _ (ne_of_gt P) (I.extBut _ _ (ne_of_gt P) (vY _ rr));have S:l.objs.size=M.objs.size+1:=by rw[J.1,I.1,Heap.size_push]
 rw[sz]at i R S;refine wY ⟨_,rr,?_⟩;show Q (.ref M.objs.size) _;rw[sz];exact q l i (m _ _ D.oz U) (C.upon λo e=>m _ o D.az e) (F.upon λo e=>m _ o D.bz e) R S λc o O c2 c3 B e=>m c o O (u c o O c2 c3 B e)
end
section
variable {prog:Program}{w:World}{A:Around}{E:QV}{s:Shared}
theorem BF {k1 k2:Bool}{z TI TO i1 i2 l1 l2:Addr}{j:Nat}{xs ys:AV}{a b:Value}{Q:PySem.Fin->Shared->Prop}(n:A.handled=none)(D:ZApart z TI TO i1 i2)(m1:l1≠z/\l1≠TO/\l1≠i1)(m2:l2≠z/\l2≠TO/\l2≠i1/\l2≠i2)
  (hz:IsZip s.heap z TI TO .none) (B:IsPair s.heap TI (.ref i1) (.ref i2)) (C:IsPair s.heap TO a b) (p:jT k1 s.heap i1 l1 j) (F:jT k2 s.heap i2 l2 j) (r:jU k1 s.heap l1 xs) (q2:jU k2 s.heap l2 ys) (he:xs[j]? = none\/ys[j]? = none)
  (q:∀h' x,(∀c o,c≠z->c≠TO->c≠i1->c≠i2->s.heap.get? c=some o->h'.get? c=some o)->(∃o,h'.get? x=some o/\o.cls=.type "StopIteration")->E (.ref x) { s with heap:=h' }):
  wpAny (model prog w) A (Builtin.«zip.__next__» ⟨[.ref z],[]⟩) Q E s:=by
 show wpAny _ _ (field (.ref z) 2>>=_) _ _ s;refine wX (wpAny_field hz rr (x:=.bool false) rr ?_);refine wX (wpAny_field hz rr (x:=.ref TI) rr (wX (wpAny_seqItems B rr ?_)));refine wX ?_;refine wX (wpAny_field hz rr (x:=.none) rr (wY ?_));simp only[if_true];refine wX (wpAny_rule (wX (wpAny_field hz rr (x:=.ref TO) rr (wX (wpAny_setField_rec hz V9 λg1 U s1=>?_)))));refine wX ?_;refine wX (wX (wpAny_onRaise ?_));cases hx:xs[j]? with
 |none=>
  refine wX (gV (s:={ s with heap:=g1 }) n (p.upon λo e=>s1.extBut _ _ D.az e) (r.upon λo e=>s1.extBut _ _ m1.1 e) hx λg x s2 hX=>?_);obtain⟨h,i,k⟩:=hX;have G:IsZip g z TI TO .ellipsis:=s2 _ _ D.az.symm U;have l:x≠z:=λH=>by lia
  exact wpAny_setField_rec G V9 λf _ d=>q f x (λc o M _ c3 _ e=>d.extBut _ _ M (s2 _ _ c3 (s1.extBut _ _ M e))) ⟨h,d.extBut _ _ l i,k⟩
 |some v=>
  have hy:ys[j]? = none:=by
   lia
  refine wX (ej (s:={ s with heap:=g1 }) (p.upon λo e=>s1.extBut _ _ D.az e) (r.upon λo e=>s1.extBut _ _ m1.1 e) hx λg I s2=>wY ?_);have t:IsPair g TO a b:=s2.extBut _ _ D.oa (s1.extBut _ _ D.oz C);refine wX (wpAny_seqItems t rr (wX (wpAny_updateSeq_pair t λf J d=>?_)));refine wX (wpAny_letGo (wY (wX (wX (wpAny_onRaise ?_)))));have O:∀ {c o},c≠z->c≠TO->c≠i1->s.heap.get? c=some o->f.get? c=some o:=λM c2 c3 e=>d.extBut _ _ c2 (s2.extBut _ _ c3 (s1.extBut _ _ M e));refine wX (gV (s:={ s with heap:=f }) n (F.upon λo e=>O D.bz D.ob.symm D.ab.symm e) (q2.upon λo e=>O m2.1 m2.2.1 m2.2.2.1 e) hy λK x u hX=>?_);obtain⟨h,i,k⟩:=hX;have m:IsZip K z TI TO .ellipsis:=u _ _ D.bz.symm (d.extBut _ _ D.oz.symm (s2.extBut _ _ D.az.symm U));have l:x≠z:=λH=>by lia
  exact wpAny_setField_rec m V9 λL _ y=>q L x (λc o M c2 c3 N e=>y.extBut _ _ M (u _ _ N (O M c2 c3 e))) ⟨h,y.extBut _ _ l i,k⟩
end
theorem jV {X:Cx}{af:AO}{σ:St}{H:Hp}{s:Shared}{h':Heap}{t':Nat}{ch:List Addr}(I:Inv X af σ H s)(f:∀b∈ch,kU X af H b)(k:∀b o,b∉ch->s.heap.get? b=some o->h'.get? b=some o):Inv X af σ H { s with heap:=h',toks:=t' }:=by
 have M:∀b u,H b=some u->b∉ch:=λb u e z=>by rw[(f b z).1]at e;cases e
 refine I.step (λb hb=>?_) (λb o _ _ hc e _=>k b o hc e) (λb o _ _ hc e _=>⟨o.slots,k b o hc e⟩) (λ_ _ _ _ n=>n)
  (λb o hc e=>⟨o,k b o hc e⟩) (λ_ _ e=>e) (λ_ _ _ e=>e) (λ_ _ e=>e) (λm hm=>?_) (λb u e=>?_) I.bare
 .obtain⟨_,f1,_,O,U,a⟩:=f b hb;exact⟨O,f1,U,a⟩
 .obtain⟨o,es,d,ho,r⟩:=hm;exact⟨o,es,d,k _ o (λz=>(f _ z).2.1 rr) ho,r⟩
 .refine(I.hok b u e).stay (λc v hc q=>k c v ?_ q) (λ_ q=>q) (λ_ _ q=>q) λ_ _ _ q=>q;grind
theorem BG {X:Cx}{af:AO}{σ:St}{H:Hp}{s:Shared}{h':Heap}{t':Nat}{ch:List Addr}{a:Addr}{ob:HO}(I:Inv X af σ H s)(f:∀b∈ch,kU X af H b)(k:∀b o,b∉ch->s.heap.get? b=some o->h'.get? b=some o)(ha:s.z<=a)
  (new:bc X.prog X.w (upd H a ob) h' a ob):Inv X af σ (upd H a ob) { s with heap:=h',toks:=t' }:=by
 have hn:H a=none:=I.hok.fresh ha;have M:∀b u,H b=some u->b∉ch:=λb u e z=>by rw[(f b z).1]at e;cases e
 have O:∀b o,s.heap.get? b=some o->b≠a:=λb o e=>vS (vQ (vX e) ha);refine I.step (ch:=ch) (λb hb=>?_) (λb o _ _ hc e _=>k b o hc e) (λb o _ _ hc e _=>⟨o.slots,k b o hc e⟩) (λb o _ e n=>by rw[a6 (O b o e)];exact n)
  (λb o hc e=>⟨o,k b o hc e⟩) (λb xs e=>by rw[a6 (aL e hn)];exact e) (λb o u e=>by rw[a6 (aL e hn)];exact e) (λb ps e=>by rw[a6 (aL e hn)];exact e) (λm hm=>?_) (λb u e=>?_) I.bare
 .obtain⟨_,f1,_,U,d,g⟩:=f b hb;exact⟨U,f1,d,g⟩
 .obtain⟨o,es,h,ho,r⟩:=hm;exact⟨o,es,h,k _ o (λz=>(f _ z).2.1 rr) ho,r⟩
 .by_cases hb:b=a
  .simp_all[aq]
  .rw[a6 hb]at e;refine(I.hok b u e).stay (λc v hc q=>k c v ?_ q) (λc q=>?_) (λc xs q=>?_) λc o xs q=>?_
   .grind
   .rw[a6 (aL q hn)];exact q
   .rw[a6 (aL q hn)];exact q
   .rw[a6 (aL q hn)];exact q
noncomputable def X3 (K:Frag)(k1 k2:Bool)(M O:Addr):It:=
  ⟨λi H=>∃xs ys x y,kG k1 K H M xs/\kG k2 K H O ys/\xs[i]? = some x/\ys[i]? = some y,
   λi H v H'=>∃T x y,v=.ref T/\H T=none/\H'=upd H T (.tup [x,y])/\(∀xs,kG k1 K H M xs->xs[i]? = some x)/\(∀ys,kG k2 K H O ys->ys[i]? = some y),
   λi H=>∃xs ys,kG k1 K H M xs/\kG k2 K H O ys/\(xs.length<=i\/ys.length<=i)⟩
theorem Gr {P:Program}{w:World}{K:Frag}{es:QD}{C:Nat}{pt:Pos}{k1 k2:Bool}{j f z TI TO i1 i2:Addr}(D:ZApart z TI TO i1 i2)(m1:j≠z/\j≠TO/\j≠i1)(m2:f≠z/\f≠TO/\f≠i1/\f≠i2):
  Turn P w K (.Tuple es C pt) (X3 K k1 k2 j f) [z,TI,TO,i1,i2] z (λi h=>IsZip h z TI TO .none/\IsPair h TI (.ref i1) (.ref i2)/\(∃a b,IsPair h TO a b)/\jT k1 h i1 j i/\jT k2 h i2 f i) where
 mem:=V9
 obj:=λi h st b hb=>by
  obtain⟨hz,d,⟨a,c,g⟩,O,U⟩:=st;simp at hb;rcases hb with rfl|rfl|rfl|rfl|rfl
  .simp_all
  .simp_all
  .simp_all
  .exact O.ob
  .exact U.ob
 keep:=λi h h' st k=>by
  obtain⟨hz,d,⟨a,c,g⟩,O,U⟩:=st;exact⟨k z V9 _ hz,k TI V9 _ d,⟨a,c,k TO V9 _ g⟩,O.upon λo e=>k i1 V9 o e,U.upon λo e=>k i2 V9 o e⟩
 item:=by
  intro X n hw p hc i af s σ H E I hf st r;subst n hw p;obtain⟨hz,d,⟨a,c,g⟩,O,U⟩:=st;obtain⟨xs,ys,x,y,m,q2,hx,hy⟩:=r;obtain⟨its,t,A,F⟩:=m.vals I;obtain⟨G,B,p2,J⟩:=q2.vals I;obtain⟨u,hu,ru⟩:=t.get hx;obtain⟨v,hv,L⟩:=B.get hy;have l:s.TypeIs (.ref z) "zip":=⟨_,hz,rr⟩;have fresh:H s.z=none:=I.hok.fresh (vT _);have lt:∀ {c o},s.heap.get? c=some o->c≠s.z:=λe=>vS (vX e);have l1:i1≠s.z:=by obtain⟨o,e,_⟩:=O.ob;exact lt e
  have l2:i2≠s.z:=by obtain⟨o,e,_⟩:=U.ob;exact lt e
  unfold pyNext;refine wX (wpAny_attempt (wpAny_callSpecial?_slot (name:=Str.ofString "__next__") l slot_zip_next (wpAny_call_entry slot_zip_next l entry_zip_next (ya D m1 m2 hz d g O U A p2 (by simpa using hu) (by simpa using hv) λh' b1 b2 b3 b4 N Y bk=>wY ?_) (args_zip_next_1 _))));refine⟨_,rr,wpAny_letOwnedTupleGo_zip (s:={ s with heap:=h' }) b1 λh2 Q s2=>?_⟩;have M:Heap.SameBut z h' h2:=s2;have R:∀b o,b∉[z,TI,TO,i1,i2]->s.heap.get? b=some o->h2.get? b=some o:=λb o hb e=>
   M.extBut _ _ (λq=>hb (by simp[q])) (bk b o (λq=>hb (by simp[q])) (λq=>hb (by simp[q])) (λq=>hb (by simp[q])) (λq=>hb (by simp[q])) e)
  have S:s.z≠z:=(lt hz).symm;have new:bc X.prog X.w (upd H s.z (.tup [x,y])) h2 s.z (.tup [x,y]):=⟨by show 2<=sizeLine;decide,[u,v],.cons ru (.cons L .nil),⟨_,M.extBut _ _ S N,rr,_,rr⟩⟩;refine⟨.ref s.z,upd H s.z (.tup [x,y]),?_,rr,⟨_,x,y,rr,fresh,rr,λzs hq=>by rw[kG.inj I hq m];exact hx,λzs hq=>by rw[kG.inj I hq q2];exact hy⟩,?_,λb hb=>?_⟩
  .exact BG (s:=s) (t':=s.toks) I hf R (vT _) new
  .exact⟨Q,M.extBut _ _ D.tz (bk _ _ D.tz D.to D.ta D.tb d),⟨_,_,M.extBut _ _ D.oz b2⟩,b3.upon λo e=>M.extBut _ _ D.az e,b4.upon λo e=>M.extBut _ _ D.bz e⟩
  .have V:b≠s.z:=by
    grind
   rw[a6 V];exact(hf b hb).1
 done:=by
  intro X n hw p hc i af s σ H E I hf st r;subst n hw p;obtain⟨hz,d,⟨a,c,g⟩,O,U⟩:=st;obtain⟨xs,ys,m,q2,hl⟩:=r;obtain⟨its,t,A,F⟩:=m.vals I;obtain⟨G,B,p2,J⟩:=q2.vals I;have l:s.TypeIs (.ref z) "zip":=⟨_,hz,rr⟩;have n1:=t.length;have n2:=B.length;unfold pyNext;refine wX (wpAny_attempt (wpAny_callSpecial?_slot (name:=Str.ofString "__next__") l slot_zip_next (wpAny_call_entry slot_zip_next l entry_zip_next (BF (I.ok.hd hc) D m1 m2 hz d g O U A p2 (hl.imp (λq=>by simp;lia) λq=>by simp;lia) λh' x hk hX=>?_) (args_zip_next_1 _))));obtain⟨o,W,co⟩:=hX;refine wX (wpAny_isInstance (T:="StopIteration") (b:=true) ⟨o,W,co⟩ isSubtype_stop (wY ⟨rr,?_⟩));exact jV (t':=s.toks) I hf λb o hb e=>hk b o (λq=>hb (by simp[q])) (λq=>hb (by simp[q])) (λq=>hb (by simp[q])) (λq=>hb (by simp[q])) e
 self:=λ_ _ _ _ _ st h=>wpAny_pyIter_zip st.1 h
section
variable {X:Cx}{a b e:Expr}{pos:Pos}{p:Pos}
theorem NU:bootBuiltins "zip" = some (.type "zip"):=H9
def U7 (K:Frag)(ta:TA):TI:=λσ H R=>ta σ H λvs M=>∃(k1 k2:Bool)(l1 l2:Addr)(xs ys:LV),vs=[.ref l1,.ref l2]/\kG k1 K M l1 xs/\kG k2 K M l2 ys/\R (X3 K k1 k2 l1 l2) M
theorem Ql {es:QD}{i:Nat}{pt:Pos}{ta:TA}(j:Gl X "zip")(hm:X.mg "zip" = none)(ha:PA X [a,b] ta)(hs:starEach [a,b] X.env=[(false,eval a X.env),(false,eval b X.env)]:=by rfl)(U:starEach [b] X.env=[(false,eval b X.env)]:=by rfl):
  PI X (.Tuple es i pt) (.Call (.Name "zip" p) [a,b] [] pos) (U7 X.K ta):=by
 intro af s σ H R I h;refine Call_ (fK I j hm NU (PyProof.Rows.callWith_type1 (bJ (ha _ _ s σ H _ I h) λus s1 ⟨vs,k,c,m,o⟩=>?_) (by rw[hs,U]) (by rw[U];rfl)));obtain⟨k1,k2,l1,l2,xs,ys,rfl,h1,h2,q⟩:=o;obtain⟨x,y,rfl,r,t⟩:=m.two;cases r
 cases t
 obtain⟨its,z,d,A⟩:=h1.vals c;obtain⟨B,C,p2,E⟩:=h2.vals c;have Fa:=d.lt;have M:=p2.lt;refine BE d p2 λh' f c2 c3 u v w=>?_;have D:ZApart (s1.z+4) (s1.z+2) (s1.z+3) s1.z (s1.z+1):=by
  constructor<;>(simp)
 have O:∀ {l:Addr}(n:Nat),l<s1.z->l≠s1.z+n:=λn hl=>vS (vQ hl (Nat.le_add_right _ n));refine wpAny_pyIter_zip f ⟨s1.z+4,[s1.z+4,s1.z+2,s1.z+3,s1.z,s1.z+1],_,_,k,rr,c.kept w,
  Gr D ⟨O 4 Fa,O 3 Fa,O 0 Fa⟩ ⟨O 4 M,O 3 M,O 0 M,O 1 M⟩,⟨f,c2,⟨_,_,c3⟩,u,v⟩,λb hb=>?_,q⟩
 have g:s1.z<=b:=by
  grind
 exact c.fpOk g (c.hok.fresh g)
noncomputable def gW (xs ys:LD):LD:=List.zipWith (λx y=>.tup [x,y]) xs ys
@[simp] def Gs (fa M:FE):FA:=λρ=>(fa ρ).bind λx=>(M ρ).bind λy=>(fz x.1).bind λxs=>(fz y.1).map λys=>gW xs ys
theorem t9 {K:Frag}{B:Hp}{v:V}{d:D}{ds:LD}(h:Is K B v d)(e:fz d=some ds):∃k a vs,v=.ref a/\kG k K B a vs/\IsL K B vs ds:=by
 cases h with
 |tup M hl=>cases e;exact⟨false,_,_,rr,M,hl⟩
 |lst M hl=>cases e;exact⟨true,_,_,rr,M,hl⟩
 |_=>cases e
theorem Qm {H s}(I:Inv X af σ H s)(h1:kG k1 X.K N l1 vs)(i1:IsL X.K N vs ds)(h2:kG k2 X.K N l2 ws)(i2:IsL X.K N ws es):lF X.K (X3 X.K k1 k2 l1 l2) N (gW ds es):=by
 intro i H' M;have n1:=i1.length;have n2:=i2.length;refine⟨λd ed=>?_,λhl=>⟨vs,ws,h1.same M,h2.same M,?_⟩⟩
 .unfold gW at ed;rw[List.getElem?_zipWith]at ed;cases O:ds[i]? with
  |none=>rw[O]at ed;simp at ed
  |some x=>
   cases e2:es[i]? with
   |none=>rw[O,e2]at ed;simp at ed
   |some y=>
    rw[O,e2]at ed;simp at ed;subst ed;obtain⟨v,c,iv⟩:=i1.get O;obtain⟨w,f,j⟩:=i2.get e2;refine⟨⟨vs,ws,v,w,h1.same M,h2.same M,c,f⟩,λr H2 hy=>?_⟩;obtain⟨T,l,m,rfl,k,rfl,f1,f2⟩:=hy;have g:=f1 vs (h1.same M);have h:=f2 ws (h2.same M);rw[c]at g;cases g;rw[f]at h;cases h;have U:=Ext.laid (o:=.tup [v,w]) M k;exact⟨_,U,.tup (fL.of aq) (.cons (iv.mono U.bn) (.cons (j.mono U.bn) .nil))⟩
 grind[gW]
theorem Qn {es:QD}{g:Nat}{pt:Pos}{fa f:FE}(hm:X.mg "zip" = none)(ha:JE X a fa)(hb:JE X b f)(h:Gl X "zip")(hs:starEach [a,b] X.env=[(false,eval a X.env),(false,eval b X.env)])(O:starEach [b] X.env=[(false,eval b X.env)]):
  JI X (.Tuple es g pt) (.Call (.Name "zip" p) [a,b] [] pos) (Gs fa f):=by
 intro af s σ H R I q;refine Ql h hm (gB ha (gB hb mS O) (by rw[hs,O])) hs O _ s σ H R I ?_;obtain⟨B,ρ,ds,i,r,M,q⟩:=q;obtain⟨j,ex,M⟩:=oX M;obtain⟨k,l,M⟩:=oX M;obtain⟨xs,U,M⟩:=oX M;obtain⟨ys,m,M⟩:=oY M;subst M;refine⟨B,ρ,[j.1,k.1],i,r,by simp[ex,l],λvs n N1 c i1=>?_⟩;cases i1 with
 |cons o d=>
  cases d with
  |cons d t=>
   cases t
   obtain⟨k1,l1,us,rfl,s1,m1⟩:=t9 o U;obtain⟨k2,l2,u,rfl,s2,m2⟩:=t9 d m;exact⟨k1,k2,l1,l2,us,u,rr,s1.same c.nh,s2.same c.nh,q _ n N1 c (Qm I s1 m1 s2 m2)⟩
end
noncomputable def unown1 (ρ:Env)(i:Nat):Env:=match ρ[i]? with
 |some (some (d,true))=>ρ.set i (some (d,false))
 |_=>ρ
theorem cH.unown1 {K:Frag}{B0 H0 N H:Hp}{σ:St}{ρ:Env}(s:cH K B0 H0 N H σ ρ)(i:Nat):cH K B0 H0 N H σ (unown1 ρ i):=by
 unfold DL.unown1;split
 .rename_i d hd;obtain⟨a,ob,h1,h2,h3,h4⟩:=s.ow i d hd;have get:∀ {j:Nat}{e:D}{b:Bool},(ρ.set i (some (d,false)))[j]? = some (some (e,b))->(i=j/\e=d/\b=false)\/(i≠j/\ρ[j]? = some _):=λq=>by
   rcases bF q with⟨z,p⟩|⟨z,p⟩
   .cases p;exact .inl ⟨z,rr,rr⟩
   .exact .inr ⟨z,p⟩
  have o:∀c,own σ (ρ.set i (some (d,false))) c->own σ ρ c/\c≠a:=λc ⟨j,e,O,q2⟩=>by
   rcases get O with⟨_,_,z⟩|⟨ne,q⟩
   .cases z
   .exact⟨⟨j,e,q,q2⟩,λz=>by subst z;exact ne (s.inj i j _ _ _ hd q h1 q2)⟩
  have c:aD (cR N (own σ ρ)) _:=cY λb u e q=>⟨e,λz=>q (o b z).1⟩;have U:=λz=>(o a z).2 rr;refine⟨s.bh,s.tb,s.ext,by rw[length_set];exact s.len,λj e q=>?_,λj e q=>?_,λj k b e f q M g h=>?_⟩
  .rcases get q with⟨rfl,rfl,_⟩|⟨_,q⟩
   .exact⟨_,h1,(h4.mono c).is (by rw[bU U];exact h2)⟩
   .obtain⟨v,k1,k2⟩:=s.sh j e q;exact⟨v,k1,k2.mono c⟩
  .rcases get q with⟨_,_,z⟩|⟨_,q⟩
   .cases z
   .obtain⟨l,o',k1,k2,k3,k4⟩:=s.ow j e q;exact⟨l,o',k1,k2,k3,k4.mono c⟩
  .rcases get q with⟨_,_,z⟩|⟨_,q⟩
   .cases z
   .rcases get M with⟨_,_,z⟩|⟨_,M⟩
    .cases z
    .exact s.inj j k b e f q M g h
 .exact s
@[simp] noncomputable def X4 (is:LN)(g:FS):FS:=λρ=>g (is.foldl unown1 ρ)
theorem cH.unowns {K:Frag}{B0 H0 N H:Hp}{σ:St}:∀(is:LN){ρ:Env},cH K B0 H0 N H σ ρ->cH K B0 H0 N H σ (is.foldl DL.unown1 ρ)
 |[],_,s=>s
 |i::is,_,s=>cH.unowns is (s.unown1 i)
theorem Qo {K:Frag}{is:LN}{g:FS}{E:Ends}{σ:St}{H:Hp}(q:lE K (X4 is g) E σ H):lE K g E σ H:=by
 obtain⟨B0,H0,ρ,r,⟨N,s⟩,e,p⟩:=q;exact⟨B0,H0,_,r,⟨N,s.unowns is⟩,e,p⟩
theorem U8 {X:Cx}{st:Stmt}{g:FS}(is:LN)(h:JS X st g):JS X st (X4 is g):=PS.to h λ_ _ _ q=>Qo q
@[simp] noncomputable def Gu:FS:=λρ=>some (.ct ρ)
@[simp] noncomputable def pV:FS:=λ_=>none
section
variable {X:Cx}{pos:Pos}
theorem LQ:JS X (.Continue pos) Gu:=PS.to xC λE σ H q=>by
 obtain⟨B0,H0,ρ,r,s,e,p⟩:=q;cases e
 exact p σ H s
theorem Gw {st:Stmt}:JS X st pV:=λaf s σ H E I q=>by
 obtain⟨B0,H0,ρ,r,_,e,_⟩:=q;cases e
end
inductive CRows (K:Frag)(P:Params):List DictEntry->List (Str×D)->Prop where
 |nil:CRows K P [] []
 |tup {x:Str}{t:Tok}{h:Int}{a:Addr}{its:Array Value}{n:Nat}{mM:Array (Option Value)}{ds:List D}{r:List DictEntry}{a7:List (Str×D)}(hh:h=PyData.keyHash P x)
   (l:K.lookup a=some ⟨.type "tuple",none,.seq its n,mM⟩) (f:(decide (its.size<=1000) && iF its.toList ds)=true) (tl:CRows K P r a7):CRows K P (⟨h,.str x t,.ref a⟩::r) ((x,.tup ds)::a7)
 |flat {x:Str}{t:Tok}{h:Int}{u:Value}{d:D}{r:List DictEntry}{a7:List (Str×D)}(hh:h=PyData.keyHash P x) (f:vz u d=true) (tl:CRows K P r a7):CRows K P (⟨h,.str x t,u⟩::r) ((x,d)::a7)
theorem CRows.lit {K:Frag}{P:Params}:∀ {es:List DictEntry}{a7:List (Str×D)},CRows K P es a7->PySem.W.KeysLit P es
 |_,_,.nil=>trivial
 |_,_,.tup hh _ _ tl=>⟨⟨_,_,rr,hh⟩,tl.lit⟩
 |_,_,.flat hh _ tl=>⟨⟨_,_,rr,hh⟩,tl.lit⟩
theorem CRows.find {K:Frag}{P:Params}(y:Str):∀ {es:List DictEntry}{a7:List (Str×D)},CRows K P es a7->match a7.lookup y with
  |none=>es.find? (λe=>Value.isStrOf y e.key)=none
  |some d=>∃e v,es.find? (λe=>Value.isStrOf y e.key)=some e/\aG v e.val/\∀B,Is K B v d
 |_,_,.nil=>rr
 |_,_,.tup (x:=x) (t:=t) (a:=a) (ds:=ds) hh l f tl=>by
  by_cases e:y=x
  .subst e;rw[List.lookup_cons_self];rw[vB]at f;obtain⟨vs,r,i⟩:=iG (K:=K) f.2;exact⟨_,.ref a,List.find?_cons_of_pos (by simp[Value.isStrOf]),rr,λB=>.tup (.inr ⟨_,_,_,l,rr,rr,le_of_lt (lt_of_le_of_lt (ET f.1) Z9),r⟩) (i B)⟩
  .have M:=tl.find y;rw[lookup_cons,beq_eq_false_iff_ne.mpr e];have O:Value.isStrOf y (Value.str x t)=false:=by
    rw[Bool.eq_false_iff];intro z;obtain⟨t',q⟩:=Value.isStrOf_shape z;simp_all
   simp only[find?_cons,O];exact M
 |_,_,.flat (x:=x) (t:=t) (u:=u) (d:=d) hh f tl=>by
  by_cases e:y=x
  .subst e;rw[List.lookup_cons_self];obtain⟨v,b,_⟩:=jQ (K:=K) (B:=λ_=>none) f;refine⟨_,v,List.find?_cons_of_pos (by simp[Value.isStrOf]),b,λB=>?_⟩;obtain⟨c,U,h⟩:=jQ (K:=K) (B:=B) f;have:c=v:=by have g:=b.abs;rw[U.abs]at g;simp_all
   simp_all
  .have M:=tl.find y;rw[lookup_cons,beq_eq_false_iff_ne.mpr e];have O:Value.isStrOf y (Value.str x t)=false:=by
    rw[Bool.eq_false_iff];intro z;obtain⟨t',q⟩:=Value.isStrOf_shape z;simp_all
   simp only[find?_cons,O];exact M
def lM (K:Frag)(P:Params)(a:Addr)(a7:List (Str×D)):Prop:=∃es n,K.lookup a=some ⟨.type "dict",none,.dict es n,#[]⟩/\CRows K P es.toList a7/\(a == sysModules)=false
theorem const_dict {K:Frag}{P:Params}{y:Str}{a:Addr}{es:Array DictEntry}{n:Nat}{a7:List (Str×D)}(e:nsIn K mainGlobals y=some (some (.ref a)))(l:K.lookup a=some ⟨.type "dict",none,.dict es n,#[]⟩)(r:CRows K P es.toList a7)(s:(a == sysModules)=false):
  ∃a,nsIn K mainGlobals y=some (some (.ref a))/\lM K P a a7:=⟨a,e,es,n,l,r,s⟩
section
variable {X:Cx}{a b e:Expr}{pos:Pos}{x:Str}{p:Pos}
theorem lM.map {af:AO}{σ:St}{H:Hp}{s:Shared}{d:Addr}{a7:List (Str×D)}(I:Inv X af σ H s)(h:lM X.K X.w.params d a7):∃f:SV,s.heap.MapOf (strKind X.prog X.w) d f/\(d == sysModules)=false /\
  ∀y,match a7.lookup y with|none=>f y=none|some dd=>∃u v,f y=some u/\aG v u/\∀B,Is X.K B v dd:=by
 obtain⟨es,n,l,r,M⟩:=h;refine⟨_,PySem.W.mapOf_K I.kIn l r.lit,M,λy=>?_⟩;have:=r.find y;have O:findBy Value.isStrOf es y=(es.toList.find? λe=>Value.isStrOf y e.key).map (·.val):=by
  simp_all[findBy]
 cases hl:a7.lookup y with
 |none=>simp_all
 |some dd=>
  rw[hl]at this;obtain⟨en,v,U,e2,c⟩:=this;exact⟨en.val,v,by rw[O,U];rfl,e2,c⟩
@[simp] noncomputable def sA (a7:List (Str×D)):D->OB
 |.str y=>(a7.lookup y).map λd=>(d,false)
 |_=>none
@[simp] noncomputable def Ap (a7:List (Str×D)):D->OB
 |.str y=>some (.bl (!(a7.lookup y).isSome),false)
 |_=>none
theorem LR (h:∃d,X.mg x=some (.ref d)/\lM X.K X.w.params d a7)(hb:JE X b f)(k:Gl X x)(hd:(x == ("__debug__" : Str))=false)(hs:lA b):JE X (.Subscript (.Name x p) b pos) (f1 (sA a7) f):=by
 obtain⟨d,hm,cd⟩:=h;have l:Fz X (λx y H Q=>∃z dd,x=.ref d/\y=.str z/\a7.lookup z=some dd/\∀v,(∀B,Is X.K B v dd)->Q v H):=by
  intro O U af s σ H x y v u Q I m n q hs;obtain⟨z,dd,rfl,rfl,o,q⟩:=q;cases m
  obtain⟨t,rfl⟩:=n;obtain⟨f,i,D,hf⟩:=cd.map I;have:=hf z;rw[o]at this;obtain⟨u,v,c,e2,A⟩:=this;exact tail_any i.typeIs slot_dict_getitem.lookup (wpAny_getItem_of (strKind_is X.prog X.w z t) i c ⟨v,H,I.tok _,e2,q v A⟩) hs
 refine PE.to (F0 l (pw (v:=.ref d) k hm rr hd) hb hs) λσ H Q q=>?_;obtain⟨B,ρ,d',bb,C,r,M,q⟩:=q;obtain⟨g,ex,M⟩:=oX M;refine⟨B,ρ,g.1,g.2,C,r,ex,λv E N1 j i1 _=>?_⟩;obtain⟨xd,F⟩:=g;cases i1<;>try (simp[sA]at M;done)
 rename_i z _;obtain⟨dd,c,e2⟩:=oY M;cases e2
 exact⟨z,_,rr,rr,c,λv hv=>(q.into j).one j.nh (hv _)⟩
@[simp] noncomputable def BH:LD->OB
 |[.lst ds]=>some (.lst ds,true)
 |[.tup ds]=>some (.lst ds,true)
 |_=>none
@[simp] noncomputable def Gx:LD->OB
 |[.lst ds]=>some (.tup ds,false)
 |[.tup ds]=>some (.tup ds,false)
 |_=>none
theorem Qp:bH X (.type "list") (Ae X.K BH):=by
 refine bH.to uK λxs H Q q=>?_;obtain⟨B,ds,d,bb,U,i,O,q⟩:=q;cases i with
 |nil=>simp at O
 |cons i1 i2=>
  cases i2 with
  |cons _ _=>cases i1<;>simp at O
  |nil=>
   cases i1<;>try (simp at O;done)
   .rename_i c vs es h hl;cases O
    refine⟨_,_,rr,.inr (aK U h),λl hp=>?_⟩;have M:=Ext.laid (o:=.lst vs) U hp;exact q _ _ _ M (.lst (dW.of aq) (hl.mono M.bn)) λ_=>⟨_,_,_,rr,rr,hp,aq,hl.mono M.bn⟩
   .rename_i c vs es h hl;cases O
    refine⟨_,_,rr,.inl (U.seq h),λl hp=>?_⟩;have M:=Ext.laid (o:=.lst vs) U hp;exact q _ _ _ M (.lst (dW.of aq) (hl.mono M.bn)) λ_=>⟨_,_,_,rr,rr,hp,aq,hl.mono M.bn⟩
theorem LW:bH X (.type "tuple") (Ae X.K Gx):=by
 refine bH.to sx λxs H Q q=>?_;obtain⟨B,ds,d,bb,M,i,O,q⟩:=q;cases i with
 |nil=>simp at O
 |cons i1 i2=>
  cases i2 with
  |cons _ _=>simp_all
  |nil=>
   cases i1<;>try (simp at O;done)
   .rename_i c vs es h hl;cases O
    exact⟨_,_,rr,.inr ⟨aK M h,q.one M (.tup h hl)⟩⟩
   .rename_i c vs es h hl;cases O
    refine⟨_,_,rr,.inl ⟨M.seq h,λl hp=>?_⟩⟩;have U:=Ext.laid (o:=.tup vs) M hp;exact q _ _ _ U (.tup (fL.of aq) (hl.mono U.bn)) V9
end
section
variable {X:Cx}{a b e:Expr}{pos:Pos}{x:Str}{p:Pos}
def Gy (K:Frag)(n:Nat)(t:NH):TG:=λv σ H Q=>∃k a xs,v=.ref a/\kG k K H a xs/\xs.length=n/\t xs σ H Q
theorem Qq (hc:X.calm=true)(h:Ti X es t)(hn:(assignEach es X.env).length=n)(M:(assignEach es X.env).findIdx? (·.1)=none):PG X (.Tuple es kt pos) (Gy X.K n t):=by
 intro af s σ H v u Q I r hw;obtain⟨k,l,xs,rfl,hq,hl,hw⟩:=hw;cases r
 cases k with
 |false=>
  obtain⟨its,O,U,hz⟩:=I.tuple hq;refine assign_Tuple_tuple (I.ok.hd hc) U (by simp[hn,<-hl,O.length]) M λh' hx=>?_;have c:=I.kept (t':=s.toks) λb o e=>hx b o (vS (vX e)) e;exact h af _ σ H xs _ Q c (by simpa using O) hw
 |true=>
  obtain⟨its,O,U,hz⟩:=I.list hq;refine wX (wpAny_standAt ?_);unfold unpack;have hsz:(assignEach es X.env).length=its.toArray.size:=by simp[hn,<-hl,O.length]
  rw[hsz,M];refine wX (wpAny_holding (PySem.W.kun_itemsOf (I.ok.hd hc) U.isList λh' hx=>?_));have c:=I.kept (t':=s.toks) λb o e=>hx b o (vS (vX e)) e;exact h af _ σ H xs _ Q c (by simpa using O) hw
@[simp] def BI (is:LN)(f:FE):FS:=λρ=>(f ρ).bind λx=>(fz x.1).bind λds=>(fT is ds (if aQ ds=true then ρ else unown ρ)).map .nx
theorem Gz {K:Frag}{is:LN}{f:FE}{E:Ends}{σ:St}{H:Hp}(q:lE K (BI is f) E σ H):zQ (tD K f) (Gy K is.length (iH is)) E σ H:=by
 obtain⟨B0,H0,ρ,r,⟨N,s⟩,e,p⟩:=q;obtain⟨x,ex,e⟩:=oX e;obtain⟨ds,es,e⟩:=oX e;obtain⟨ρ',M,e⟩:=oY e;subst e;refine⟨N,ρ,x.1,x.2,s.ext.nh,s.rep,ex,λv c N1 d i1 _=>?_⟩;obtain⟨k,a,vs,rfl,g,O⟩:=t9 i1 es;have s1:=s.grow d;refine⟨k,a,vs,rr,g.same d.nh,by rw[O.length];exact jS M,?_⟩;by_cases hn:aQ ds=true
 .rw[if_pos hn]at M;exact jR s1 (s1.flats O hn) M λU s'=>p _ c ⟨N1,s'⟩
 .rw[if_neg hn]at M;exact jR s1.unown (O.mono λa o e=>by rw[bU mQ];exact e) M λU s'=>p _ c ⟨N1,s'⟩
theorem LX (he:JE X e f)(M:PG X (.Tuple es O p2) (Gy X.K is.length (iH is)))(hs:swapsWithSole [.Tuple es O p2] e pos.line X.env=pure false)(hw:swappedStores [.Tuple es O p2] e X.env=pure none)
  (h1:(assignEach [.Tuple es O p2] X.env).map (·.2)=[assign (.Tuple es O p2) X.env]):JS X (.Assign [.Tuple es O p2] e pos) (BI is f):=PS.to (Fl he M hs hw h1) λ_ _ _ q=>Gz q
@[simp] noncomputable def G0 (i:Nat)(M O:FE):FS:=λρ=>match ρ[i]? with
 |some (some (.lst ds,true))=>(O ρ).bind λv=>(M ρ).bind λk=>match k.1 with
  |.int j=>(EZ ds.length j).bind λn=>if aI v.1=true then some (.nx (ρ.set i (some (.lst (ds.set n v.1),true))))else none
  |_=>none
 |_=>none
theorem Qr (hv:JE X e fv)(hk:JE X k fk)(d:X.N[i]? = some y)(O:Fg X.env.scope y)(hd:(y == ("__debug__" : Str))=false)
  (f:(y == ("__classdict__" : Str))=false)
  (ha:∀v,assign (.Subscript (.Name y py) k pt) X.env v=(do
   let U <-holding [v] (eval (.Name y py) X.env)
   let iv <-holding [v,U] (eval k X.env)
   standAt pt
   holding [v,U,iv] (setItem U iv v)
   release [v,U,iv] []))
  (hs:swapsWithSole [.Subscript (.Name y py) k pt] e pos.line X.env=pure false) (hw:swappedStores [.Subscript (.Name y py) k pt] e X.env=pure none)
  (h1:(assignEach [.Subscript (.Name y py) k pt] X.env).map (·.2)=[assign (.Subscript (.Name y py) k pt) X.env]):JS X (.Assign [.Subscript (.Name y py) k pt] e pos) (G0 i fk fv):=by
 refine PS.to (Fl hv (OQ (iB d O hd f) hk F4 ha) hs hw h1) λE σ H q=>?_;obtain⟨B0,H0,ρ,r,⟨N,s⟩,M,p⟩:=q;unfold G0 at M;split at M
 .rename_i ds ei;obtain⟨v,g,M⟩:=oX M;obtain⟨h,ek,M⟩:=oX M;obtain⟨kd,u⟩:=h;cases kd with
  |int j=>
   obtain⟨n,en,M⟩:=oX M;split at M
   .rename_i hn;cases M
    refine⟨N,ρ,v.1,v.2,s.ext.nh,s.rep,g,λw A N1 m i1 _=>?_⟩;have s1:=s.grow m;obtain⟨l,vs,o,z,h1,h2,h3,h4⟩:=s1.owL i _ ei;refine⟨_,h1,N1,ρ,_,_,s1.ext.nh,s1.rep,ek,λkv H2 N2 c i2 _=>?_⟩;cases i2
    have s2:=s1.grow c;obtain⟨B,t,o,z,k1,k2,k3,k4⟩:=s2.owL i _ ei;cases z
    rw[h1]at k1;cases k1;exact⟨l,t,j,n,rr,rr,s2.ext.nh _ _ k2,by rw[k4.length];exact en,p σ _ ⟨_,s2.write ei h1 (IsL.set (s2.flat (i1.mono c.bn) hn) n k4)⟩⟩
   .cases M
  |_=>cases M
 simp_all
@[simp] noncomputable def Qs (i:Nat)(g:LD->Option LD):FS:=λρ=>match ρ[i]? with
 |some (some (.lst ds,true))=>(g ds).map λes=>.nx (ρ.set i (some (.lst es,true)))
 |_=>none
@[simp] noncomputable def Aq (i:Nat)(f:FE):FS:=λρ=>match ρ[i]? with
 |some (some (.lst ds,true))=>(f ρ).bind λx=>match x.1 with
  |.lst es=>if x.2=true/\aQ es=true/\ds.length+es.length<=sizeLine then some (.nx (ρ.set i (some (.lst (ds++es),true))))else none
  |_=>none
 |_=>none
theorem Qt (he:JE X e f)(g:X.N[i]? = some y)(hv:Fg X.env.scope y)(hd:(y == ("__debug__" : Str))=false)
  (h:(y == ("__classdict__" : Str))=false)
  (O:attributeBase (.Name y py) "extend" X.env (eval (.Name y py) X.env)=eval (.Name y py) X.env)
  (j:((backTo bq (starEach [e] X.env)).all (λx=>!x.1) && (backToKw bq (keywordEach [] X.env)).all (λx=>x.1.isSome)
   && decide ([e].length+([]:List Keyword).length+(if([]:List Keyword).isEmpty then 0 else 1)<30))=true)
  (U:(bQ.endLine == bq.line)=true) (hs:starEach [e] X.env=[(false,eval e X.env)]) (k:swapsWith (.Call (.Attribute (.Name y py) "extend" bQ) [e] [] bq) none pos.line X.env=pure false):
  JS X (.Expr (.Call (.Attribute (.Name y py) "extend" bQ) [e] [] bq) pos) (Aq i f):=by
 refine PS.to (uB (xD plainAttrs_list PySem.F.slot_list_extend PySem.F.type_list_extend D9 (iB g hv hd h) (cF he dX hs) O j U hs rr) k) λE σ H q=>?_;obtain⟨B0,H0,ρ,r,⟨N,s⟩,M,p⟩:=q;unfold Aq at M;split at M
 .rename_i ds ei;obtain⟨v,m,M⟩:=oX M;obtain⟨n,A⟩:=v;cases n with
  |lst es=>
   dsimp at M;split at M
   .rename_i hc;cases M
    obtain⟨l,vs,o,z,h1,h2,h3,h4⟩:=s.owL i _ ei;refine⟨_,h1,.inl ⟨rr,vs,dW.of (s.ext.nh _ _ h2)⟩,N,ρ,_,_,s.ext.nh,s.rep,m,λB C N1 c i1 f1=>?_⟩;obtain⟨l2,t,D,rfl,z,g1,u,d⟩:=f1 hc.1;cases z
    have s1:=s.grow c;obtain⟨G,w,o,z,k1,k2,_,k4⟩:=s1.owL i _ ei;cases z
    rw[h1]at k1;cases k1;exact⟨l,l2,w,t,rr,rr,s1.ext.nh _ _ k2,c.nh _ _ u,by rw[k4.length,d.length];exact hc.2.2,p σ _ ⟨_,s1.write ei h1 (k4.append (s1.flats d hc.2.1))⟩⟩
   .cases M
  |_=>cases M
 simp_all
end
open AutoSeq1 (wpAny_loadPart')
noncomputable def Zm (k:Bool):String:=if k=true then "list" else "tuple"
theorem yc (k:Bool)(l:Addr)(items:AV)(n:Nat)(M:Option Addr)(sl:Array (Option Value)):
  Meets (Builtin.«enumerate.__new__» ⟨[.type "enumerate",.ref l],[]⟩) (λ_ R s=>s.heap.get? l=some { cls:=.type (Zm k),dict:=M,data:=.seq items n,slots:=sl } /\
   R (.ok (.ret (.ref (s.heap.push (LP k l)).objs.size))) { s with heap:=(s.heap.push (LP k l)).push { cls:=.type "enumerate",data:=.fields #[.none,.bool false,.ref s.z,rawInt 0,.none,.none] } }):=
 .of_wp λprog w A R s hs=>by
  obtain⟨hp,g,d,tk,os⟩:=s;obtain⟨hl,hs⟩:=hs;have U:=sub_enumerate;have O:jU k (Shared.heap ⟨hp,g,d,tk,os⟩) l items:=by cases k<;>exact⟨_,hl,rr,n,rr⟩
  wp_walk using wpAny_loadPart' hl;refine wpAny_stack_any λst=>wY ?_;split
  .rename_i c _ _ _ _ _;cases (c == Value.type _)
   .wp_walk using wpAny_loadPart' hl,lL O;exact⟨_,rr,hs⟩
   .wp_walk using wpAny_loadPart' hl,lL O;exact⟨_,rr,hs⟩
  .wp_walk using wpAny_loadPart' hl,lL O;exact⟨_,rr,hs⟩
section
variable {prog:Program}{w:World}{A:Around}{E:QV}{s:Shared}
theorem G1 (U:jU k s.heap l items)
  (q:∀h',IsEnum h' (s.z+1) s.z 0 .none->jT k h' s.z l 0->(∀b o,s.heap.get? b=some o->h'.get? b=some o)->Q (.ref (s.z+1)) { s with heap:=h' }):
  wpAny (model prog w) A (call (.type "enumerate") [.ref l]) Q E s:=by
 have hh:∃(M:Option Addr)(sl:Array _)(n:Nat),s.heap.get? l=some { cls:=.type (Zm k),dict:=M,data:=.seq items n,slots:=sl }:=by
  cases k<;>(obtain⟨⟨c,M,dt,sl⟩,hl,hc,n,hd⟩:=U;subst hc;subst hd;exact⟨M,sl,n,hl⟩)
 obtain⟨M,sl,n,hl⟩:=hh;refine callType_new PySem.F.called_enumerate Z9 (PySem.F.typeCall_enumerate_1 _) (PySem.F.newCall_enumerate_1 _) (λobj=>PySem.F.args_object_init_2 obj _) PySem.F.entry_enumerate_new (yc k l items n M sl) ⟨hl,?_⟩;have n1:(s.heap.push (LP k l)).objs.size=s.z+1:=Heap.size_push ..;have O:((s.heap.push (LP k l)).push { cls:=.type "enumerate",data:=.fields #[.none,.bool false,.ref s.z,rawInt 0,.none,.none] }).get? _=some _:=vY _ rr;have g1:((s.heap.push (LP k l)).push { cls:=.type "enumerate",data:=.fields #[.none,.bool false,.ref s.z,rawInt 0,.none,.none] }).get? _=some _:=vZ _ (vY _ (by cases k<;>rfl))
 rw[n1]at O;rw[n1];refine⟨⟨_,O,rr⟩,q _ O ?_ λb o e=>vZ _ (vZ _ e)⟩;cases k<;>exact⟨_,g1,rr,rr⟩
theorem Qu (b:A.handled=none)(it l:Addr)(M:l≠it)(items:AV):Draws prog w A it [it,l] items.size (λi v=>items[i]? = some v) (λi h=>jT k h it l i/\jU k h l items) where
 live:=λi h st=>let ⟨o,e,_⟩:=st.1.ob;⟨o,e⟩
 frame:=λi h h' st U=>⟨st.1.upon λo e=>U it V9 o e,st.2.upon λo e=>U l V9 o e⟩
 item:=λi s Q E hi st q=>ej st.1 st.2 (v:=items[i]) (by simp ) λh' O a=>q _ h' _ (by simp ) ⟨O,st.2.upon λo e=>a.extBut _ _ M e⟩ a
 done:=λs Q E st q=>gV b st.1 st.2 V9 q
theorem Qv (O:A.handled=none)(it l:Addr)(items:AV)(n:Nat)(hn:items[n]? = none):Draws prog w A it [it,l] n (λ_ _=>True) (λi h=>(jT k h it l i/\jU k h l items)/\i=n) where
 live:=λi h st=>let ⟨o,e,_⟩:=st.1.1.ob;⟨o,e⟩
 frame:=λi h h' st M=>⟨⟨st.1.1.upon λo e=>M it V9 o e,st.1.2.upon λo e=>M l V9 o e⟩,st.2⟩
 item:=λi s Q E hi st q=>absurd st.2 (vS hi)
 done:=λs Q E st q=>gV O st.1.1 st.1.2 hn q
end
noncomputable def X5 (K:Frag)(k:Bool)(a:Addr):It:=
  ⟨λi H=>∃xs x,kG k K H a xs/\xs[i]? = some x,
   λi H v H'=>∃T x,v=.ref T/\H T=none/\H'=upd H T (.tup [.int i,x])/\∀xs,kG k K H a xs->xs[i]? = some x,
   λi H=>∃xs,kG k K H a xs/\xs.length<=i⟩
theorem DO {P:Program}{w:World}{K:Frag}{es:QD}{B:Nat}{pt:Pos}{k:Bool}{a e it:Addr}(U:e≠it)(f:a≠e)(g:a≠it):
  Turn P w K (.Tuple es B pt) (X5 K k a) [e,it] e (λi h=>(∃M,IsEnum h e it i M)/\jT k h it a i) where
 mem:=V9
 obj:=λi h st b hb=>by
  obtain⟨⟨M,he⟩,O⟩:=st;simp at hb;rcases hb with rfl|rfl
  .simp_all
  .exact O.ob
 keep:=λi h h' st c=>by
  obtain⟨⟨M,he⟩,O⟩:=st;exact⟨⟨M,c e V9 _ he⟩,O.upon λo q=>c it V9 o q⟩
 item:=by
  intro X j hw l hc i af s σ H E I hf st m;subst j hw l;obtain⟨⟨M,he⟩,O⟩:=st;obtain⟨xs,x,d,hx⟩:=m;obtain⟨its,n,p,C⟩:=d.vals I;obtain⟨u,hu,ru⟩:=n.get hx;have fresh:=I.hok.fresh (vT _);have r:i<its.toArray.size:=by rw[vG];exact(vV hu).1
  have y:e≠s.z:=vS (vX he);have D:it≠s.z:=by obtain⟨o,q,_⟩:=O.ob;exact vS (vX q)
  refine wpAny_pyNext_enum_itemD (Qu (A:=X.A.in1) (I.ok.hd hc) it a g its.toArray) he ⟨O,p⟩ r U (by simp[U,f.symm]) λv h' tk hv ho F G hsz hk=>?_;have J:v=u:=by
   simp_all
  subst J;refine⟨_,rr,wpAny_letOwnedTupleGo_enum ho λh2 L s2=>?_⟩;have t:Heap.SameBut e h' h2:=s2;have c:∀b o,b∉[e,it]->s.heap.get? b=some o->h2.get? b=some o:=λb o hb q=>t.extBut _ _ (λz=>hb (by simp[z])) (hk b o (λz=>hb (by simp[z])) (λz=>hb (by simp[z])) q);have new:bc X.prog X.w (upd H s.z (.tup [.int i,x])) h2 s.z (.tup [.int i,x]):=⟨by show 2<=sizeLine;decide,[.int i tk,v],.cons ⟨tk,rr⟩ (.cons ru .nil),⟨_,t.extBut _ _ y.symm G,rr,_,rr⟩⟩;refine⟨.ref s.z,upd H s.z (.tup [.int i,x]),BG (s:=s) (t':=tk+1) I hf c (vT _) new,rr,⟨_,x,rr,fresh,rr,λzs hq=>by rw[kG.inj I hq d];exact hx⟩,?_,λb hb=>?_⟩
  .exact⟨⟨_,by have:=L;exact this⟩,F.1.upon λo q=>t.extBut _ _ U.symm q⟩
  .have N:b≠s.z:=by
    simp at hb;rcases hb with rfl|rfl
    .exact y
    .exact D
   rw[a6 N];exact(hf b hb).1
 done:=by
  intro X j hw l hc i af s σ H E I hf st m;subst j hw l;obtain⟨⟨M,he⟩,O⟩:=st;obtain⟨xs,d,hl⟩:=m;obtain⟨its,n,p,C⟩:=d.vals I;have n1:=n.length;refine wpAny_pyNext_enum_endD (Qv (A:=X.A.in1) (I.ok.hd hc) it a its.toArray i Y9) he ⟨⟨O,p⟩,rr⟩ λh' hk=>⟨rr,?_⟩;exact jV (t':=s.toks) I hf λb o hb q=>hk b o (λz=>hb (by simp[z])) q
 self:=λ_ _ _ _ _ st h=>let ⟨⟨_,he⟩,_⟩:=st;wpAny_pyIter_enum he h
section
variable {X:Cx}{a b e:Expr}{pos:Pos}{p:Pos}
theorem ye:bootBuiltins "enumerate" = some (.type "enumerate"):=H9
noncomputable def tE (ds:LD):LD:=ds.mapIdx λi d=>.tup [.int i,d]
@[simp] def G2 (fa:FE):FA:=λρ=>(fa ρ).bind λx=>(fz x.1).map tE
theorem LY {K:Frag}{N:Hp}{k:Bool}{l:Addr}{vs:LV}{ds:LD}(h1:kG k K N l vs)(i1:IsL K N vs ds):lF K (X5 K k l) N (tE ds):=by
 intro i H' M;have n1:=i1.length;refine⟨λd ed=>?_,λhl=>⟨vs,h1.same M,?_⟩⟩
 .unfold tE at ed;rw[List.getElem?_mapIdx]at ed;obtain⟨x,f,rfl⟩:=oY ed;obtain⟨v,O,iv⟩:=i1.get f;refine⟨⟨vs,v,h1.same M,O⟩,λr H2 hy=>?_⟩;obtain⟨T,h,rfl,g,rfl,f1⟩:=hy;have U:=f1 vs (h1.same M);rw[O]at U;cases U;have c:=Ext.laid (o:=.tup [.int i,v]) M g;exact⟨_,c,.tup (fL.of aq) (.cons (.int _) (.cons (iv.mono c.bn) .nil))⟩
 simp_all[tE]
theorem LZ {es:QD}{h:Nat}{pt:Pos}{fa:FE}(hm:X.mg "enumerate" = none)(ha:JE X a fa)(i:Gl X "enumerate")(hs:starEach [a] X.env=[(false,eval a X.env)]):
  JI X (.Tuple es h pt) (.Call (.Name "enumerate" p) [a] [] pos) (G2 fa):=by
 intro af s σ H R I q;refine Call_ (fK I i hm ye (PyProof.Rows.callWith_type1 (bJ (gB ha mS hs _ _ s σ H (λvs M=>∃(k:Bool)(l:Addr)(us:LV),vs=[.ref l]/\kG k X.K M l us/\R (X5 X.K k l) M) I ?_) λus s1 ⟨vs,M,c,j,m⟩=>?_) hs rr))
 .obtain⟨B,ρ,ds,n,r,O,q⟩:=q;obtain⟨o,ex,O⟩:=oX O;obtain⟨xs,t,O⟩:=oY O;subst O;refine⟨B,ρ,[o.1],n,r,by simp[ex],λvs M N1 d i1=>?_⟩;cases i1 with
  |cons u v=>
   cases v
   obtain⟨k1,l1,us,rfl,s1,m1⟩:=t9 u t;exact⟨k1,l1,us,rr,s1.same d.nh,q _ M N1 d (LY s1 m1)⟩
 .obtain⟨k,l,y,rfl,h1,q⟩:=m;obtain⟨z,rfl,w⟩:=j.one;cases w
  obtain⟨its,A,f,C⟩:=h1.vals c;have Fa:=f.lt;refine G1 f λh' g c2 x=>?_;refine wpAny_pyIter_enum g ⟨s1.z+1,[s1.z+1,s1.z],_,_,M,rr,c.kept x,
   DO (Nat.succ_ne_self _) (vS (lt_succ_of_lt Fa)) (vS Fa),⟨⟨_,g⟩,c2⟩,λb hb=>?_,q⟩
  have U:s1.z<=b:=by
   grind
  exact c.fpOk U (c.hok.fresh U)
end
end DL
namespace DL
open PySem PySem.Spec PyProof.Rows
def jg (xs:Array Nat):Prop:=xs.toList.Pairwise (· < ·)
theorem jg.lt {xs:Array Nat}(h:jg xs){i j a b:Nat}(hi:xs[i]? = some a)(hj:xs[j]? = some b)(l:i<j):a<b:=by
 obtain⟨h1,M⟩:=Array.getElem?_eq_some_iff.mp hi;obtain⟨h2,e2⟩:=Array.getElem?_eq_some_iff.mp hj;have:=List.pairwise_iff_getElem.mp h i j (by simpa using h1) (by simpa using h2) l;simp_all
theorem pW {xs:Array Nat}(h:jg xs)(j:Nat):∀(fuel lo hi:Nat),hi<=xs.size->lo<=hi->hi - lo<=fuel->(∀i a,i<lo->xs[i]? = some a->a<j)->(∀i a,hi<=i->xs[i]? = some a->j<=a) ->
  (SetTable.below.go xs j fuel lo hi<=xs.size/\(∀i a,i<SetTable.below.go xs j fuel lo hi->xs[i]? = some a->a<j)/\∀i a,SetTable.below.go xs j fuel lo hi<=i->xs[i]? = some a->j<=a)
 |0,lo,hi,h1,h2,h3,h4,h5=>by
  have:lo=hi:=N9
  subst this;exact⟨h1,h4,h5⟩
 |fuel+1,lo,hi,h1,h2,h3,h4,h5=>by
  unfold SetTable.below.go;by_cases hl:lo<hi
  .rw[if_pos hl];have hm:(lo+hi) / 2<xs.size:=N9
   have M:xs[(lo+hi) / 2]? = some (xs.getD ((lo+hi) / 2) j):=by simp_all
   by_cases hc:xs.getD ((lo+hi) / 2) j<j
   .rw[if_pos hc];refine pW h j fuel _ _ h1 N9 N9 (λi a O ha=>?_) h5;by_cases hx:i=(lo+hi) / 2
    .simp_all
    .exact Nat.lt_trans (h.lt ha M N9) hc
   .rw[if_neg hc];refine pW h j fuel _ _ N9 N9 N9 h4 λi a O ha=>?_;by_cases hx:i=(lo+hi) / 2
    .rw[hx,M]at ha;lia
    .have:=h.lt M ha N9;lia
  .rw[if_neg hl];have:lo=hi:=N9
   subst this;exact⟨h1,h4,h5⟩
theorem pX {xs:Array Nat}(h:jg xs)(j:Nat):SetTable.below xs j<=xs.size/\(∀i a,i<SetTable.below xs j->xs[i]? = some a->a<j)/\∀i a,SetTable.below xs j<=i->xs[i]? = some a->j<=a:=
 pW h j _ 0 _ (vT _) (uM _) N9 (λ_ _ h=>absurd h (Nat.not_lt_zero _)) λi a h1 h2=>by
  simp_all
theorem Ar {xs:Array Nat}(h:jg xs){i a:Nat}(e:xs[i]? = some a):SetTable.below xs (a+1)=i+1:=by
 obtain⟨h1,h2,h3⟩:=pX h (a+1);by_cases c:SetTable.below xs (a+1)<i+1
 .have:=h3 i a N9 e;lia
 .by_cases c2:i+1<SetTable.below xs (a+1)
  .obtain⟨b,hb⟩:∃b,xs[i+1]? = some b:=⟨_,Array.getElem?_eq_getElem N9⟩;have:=h2 _ b c2 hb;have:=h.lt e hb N9;lia
  simp_all<;>lia
theorem As {xs:Array Nat}(h:jg xs):SetTable.below xs 0=0:=by
 obtain⟨h1,h2,_⟩:=pX h 0;by_cases c:0<SetTable.below xs 0
 .obtain⟨b,hb⟩:∃b,xs[0]? = some b:=⟨_,Array.getElem?_eq_getElem N9⟩;exact absurd (h2 0 b c hb) (Nat.not_lt_zero _)
 simp_all
theorem G3 {xs:Array Nat}(h:jg xs){j:Nat}(hj:xs[SetTable.below xs j]? ≠ some j):jg (SetTable.insertAt xs (SetTable.below xs j) j):=by
 obtain⟨h1,h2,h3⟩:=pX h j;have e:(SetTable.insertAt xs (SetTable.below xs j) j).toList=xs.toList.take (SetTable.below xs j)++j::xs.toList.drop (SetTable.below xs j):=by
  simp_all[SetTable.insertAt,List.take_of_length_le]
 unfold jg;rw[e,List.pairwise_append,pairwise_cons];have lo:∀a∈xs.toList.take _,a<j:=λa ha=>by
  obtain⟨i,hi⟩:=mem_iff_getElem?.mp ha;rw[List.getElem?_take]at hi;split at hi
  .rename_i hl;exact h2 i a hl (by simpa using hi)
  .cases hi
 have M:∀a∈xs.toList.drop (SetTable.below xs j),j<a:=λa ha=>by
  obtain⟨i,hi⟩:=mem_iff_getElem?.mp ha;rw[List.getElem?_drop,Array.getElem?_toList]at hi;have h4:=h3 _ a N9 hi;rcases Nat.lt_or_eq_of_le h4 with h5|h5
  .exact h5
  .subst h5;by_cases h0:i=0
   .subst h0;exact absurd hi hj
   .obtain⟨b,hb⟩:∃b,xs[SetTable.below xs j]? = some b:=⟨_,Array.getElem?_eq_getElem (by have:=(Array.getElem?_eq_some_iff.mp hi).1;lia)⟩;have:=h3 _ b (vT _) hb;have:=h.lt hb hi N9;simp<;>lia
 refine⟨List.Pairwise.sublist (take_sublist _ _) h,⟨M,List.Pairwise.sublist (List.drop_sublist _ _) h⟩,λa ha b hb=>?_⟩;rcases vP hb with rfl|hb
 .exact lo a ha
 .exact Nat.lt_trans (lo a ha) (M b hb)
theorem kY {t:SetTable}{f:Nat->Int}{h:Int}:∀(fuel:Nat)(p:SetTable.Probe)(j:Nat)(d:Option Nat),(∀d,p.dummy=some d->t.place[SetTable.below t.place d]? ≠ some d)->SetTable.probe.go t f h fuel p=some (.empty j d)->t.place[SetTable.below t.place j]? ≠ some j/\∀e,d=some e->t.place[SetTable.below t.place e]? ≠ some e
 |0,_,_,_,_,h=>by simp[SetTable.probe.go]at h
 |fuel+1,p,j,d,hd,M=>by
  unfold SetTable.probe.go at M;cases hs:t.slot _ with
  |empty=>
   rw[hs]at M;cases M
   refine⟨λz=>?_,hd⟩;unfold SetTable.slot at hs;simp[z]at hs
  |dummy=>
   rw[hs]at M;refine kY _ _ j d (λe he=>?_) M;have:=by
    unfold SetTable.advance at he;split at he<;>exact(vK he).symm
   subst this;intro z;unfold SetTable.slot at hs;simp[z]at hs
  |live i=>
   rw[hs]at M;dsimp at M;split at M
   .cases M
   .refine kY _ _ j d (λe he=>hd e ?_) M;unfold SetTable.advance at he;split at he<;>exact he
theorem G4 {t:SetTable}{h:Int}{j:Nat}{w:Bool}(e:t.freeSlot h=some (j,w)):t.place[SetTable.below t.place j]? ≠ some j:=by
 unfold SetTable.freeSlot at e;split at e
 .rename_i M d hp;obtain⟨h1,h2⟩:=kY _ _ _ _ (λd hd=>by cases hd) hp;cases e
  cases d with
  |none=>exact h1
  |some d=>exact h2 d rr
 simp_all
theorem iI (n:Nat):jg (Array.range n):=by simp_all[jg,List.pairwise_lt_range]
theorem DP {c M U:Nat}{led pl:Bool}{O:Array Int}{t:SetTable}{o:Array Nat}(e:SetTable.laid c M U led pl O=some (t,o)):jg t.place:=by
 obtain⟨ow,_,e⟩:=oX e;cases e
 refine pairwise_map.mpr ?_;refine List.Pairwise.filterMap _ (λa b h x hx y hy=>?_) List.pairwise_lt_range;obtain⟨_,_,rfl⟩:=oY hx;obtain⟨_,_,rfl⟩:=oY hy;exact h
theorem DQ (t:SetTable)(es:Array (Int×Value))(n:Nat):(relayAll t es n).2.1.led=t.led:=by
 unfold relayAll;split
 .rename_i t' M h;obtain⟨ow,_,h⟩:=oX h;cases h
  dsimp ;split<;>rfl
 .rfl
theorem Au (t:SetTable)(es:Array (Int×Value))(n:Nat)(h:jg t.place):jg (relayAll t es n).2.1.place:=by
 unfold relayAll;split
 .rename_i t' M e;dsimp;split
  .exact DP e
  .exact iI _
 .exact iI _
theorem G5 (t:SetTable)(es:Array (Int×Value))(hh:Int)(x:Value)(h:jg t.place):jg (layNew t es hh x).2.1.place:=by
 unfold layNew;split
 .rename_i slot wd e;dsimp [SetTable.orStandIn];repeat' (first|exact G3 h (G4 e)|exact iI _|split)
 .exact iI _
theorem Ma (t:SetTable)(es:Array (Int×Value))(h:Int)(x:Value):(layNew t es h x).2.1.led=t.led:=by
 unfold layNew;split
 .dsimp [SetTable.orStandIn];repeat' (first|rfl|split)
 .rfl
structure TabT (w:World)(es:Array (Int×Value))(t:SetTable):Prop where
 fits:t.fits es.size=true
 led:t.led = !w.params.followText "set-order"
 rise:jg t.place
structure KOf {prog:Program}{w:World}{κ:Type}[DecidableEq κ](kd:PySem.KeyKind prog w κ)(kf:Value->κ)(mk:κ->Tok->Value):Prop where
 is:∀k t,kd.is k (mk k t)=true
 of:∀ {k v},kd.is k v=true->∃t,v=mk k t
 kf:∀k t,kf (mk k t)=k
 sc:∀k t,(mk k t).scannable=true
def gY {prog:Program}{w:World}{κ:Type}[DecidableEq κ](kd:PySem.KeyKind prog w κ)(kf:Value->κ)(h:Heap)(a:Addr)(M:List κ):Prop:=
 ∃o es O t,h.get? a=some o/\o.ExactSet/\o.data=.set es O t/\ElemsOf kd es.toList/\(es.toList.map (λe=>kf e.2)).Perm M/\M.Nodup/\M.length<scanBound/\TabT w es t
noncomputable def iJ {κ:Type}[DecidableEq κ](M:List κ)(x:κ):List κ:=if x∈M then M else M++[x]
theorem G6 {κ:Type}[DecidableEq κ](M:List κ)(x:κ):(iJ M x).length<=M.length+1:=by unfold iJ;split<;>simp
section
variable {prog:Program}{w:World}{A:Around}{E:QV}{s:Shared}{κ:Type}[DecidableEq κ] {kd:PySem.KeyKind prog w κ}{kf:Value->κ}{mk:κ->Tok->Value}
theorem KOf.key (M:KOf kd kf mk)(h:kd.is k v=true):kf v=k:=by obtain⟨t,rfl⟩:=M.of h;exact M.kf _ _
theorem tF (O:KOf kd kf mk){es:Array (Int×Value)}{U:List κ}(M:ElemsOf kd es.toList)(hp:(es.toList.map (λe=>kf e.2)).Perm U)(k:κ):k∈U ↔ ∃e∈es.toList,kd.is k e.2=true:=by
 rw[<-hp.mem_iff,List.mem_map];constructor
 .rintro⟨e,he,rfl⟩;obtain⟨⟨k',hk,_⟩,_⟩:=M e he;exact⟨e,he,by rw[O.key hk];exact hk⟩
 .rintro⟨e,he,hk⟩;exact⟨e,he,O.key hk⟩
theorem tG {h:Heap}{a:Addr}{o:Obj}{es:Array (Int×Value)}{O:Nat}{t:SetTable}(ho:h.get? a=some o)(hd:o.data=.set es O t)(M:Array (Int×Value))(t':SetTable):
  (h.update a (Obj.putSet M t')).get? a=some { o with data:=.set M (O+1) t' }:=by
 have:=Heap.get?_update_self (Obj.putSet _ t') ho (by rw[putSet_of M t' hd];rfl);rw[putSet_of _ t' hd]at this;exact this
theorem pY {g:Bool->Sem Unit}(B:∀(b:Bool)(c:Shared)(p:Unit->Shared->Prop),p () c->wpAny (model prog w) A (g b) p E c)
  {a:Addr}{o:Obj}{es:Array (Int×Value)}{C:Nat}{t:SetTable}(ho:s.heap.get? a=some o) (q:o.ExactSet) (hd:o.data=.set es C t)
  {M:Array (Int×Value)}{O:SetTable}{d:List κ}(r:ElemsOf kd M.toList) (i:(M.toList.map (λe=>kf e.2)).Perm d) (nd:d.Nodup)
  (hb1:d.length<scanBound) (j:O.fits M.size=true) (u:O.led = !w.params.followText "set-order") (v:jg O.place) {U:Bool}{R:Option Bool->Shared->Prop}
  (h:∀h',Heap.SameBut a s.heap h'->gY kd kf h' a d->R (some true) { s with heap:=h' }):
  wpAny (model prog w) A (do
    storeSet a M O
    if(!U && O.tooFull)=true then do
      g (relayAll O M (SetTable.grown M.size)).2.2
      storeSet a (relayAll O M (SetTable.grown M.size)).1 (relayAll O M (SetTable.grown M.size)).2.1
      pure (some true)
     else pure (some true)) R E s:=by
 have x:M.size=d.length:=by rw[<-i.length_eq,vH,vF]
 refine wX (wpAny_storeSet_of ho hd ?_ (fits_of_scanBound (by rw[x];exact hb1)));have k:=tG ho hd M O;have y:=vW s.heap a (Obj.putSet M O);split
 .have hp:=relayAll_perm O M (SetTable.grown M.size);have l:=relayAll_fits O M (SetTable.grown M.size);have m:=DQ O M (SetTable.grown M.size);have n:=Au O M (SetTable.grown M.size) v;generalize D:relayAll O M (SetTable.grown M.size)=Rl at hp l m n |-;obtain⟨f,z,H⟩:=Rl;dsimp only at hp l m n |-;have F:ElemsOf kd f.toList:=r.perm hp;have hsz:f.size=M.size:=by rw[<-vF,hp.length_eq,vF]
  refine wX (B _ _ _ ?_);refine wX (wpAny_storeSet_of k rr ?_ (fits_of_scanBound (by rw[hsz,x];exact hb1)));have G:=tG k rr f z;exact wY (h _ (y.trans (vW _ a _)) ⟨_,f,_,z,G,q,rr,F,(hp.map _).trans i,nd,hb1,l,m.trans u,n⟩)
 .exact wY (h _ y ⟨_,M,_,O,k,q,rr,r,i,nd,hb1,j,u,v⟩)
theorem Av (f:KOf kd kf mk){a:Addr}{d:List κ}{k:κ}{tk:Tok}{Q:Bool->Shared->Prop}(H:gY kd kf s.heap a d)(K:d.length+1<scanBound)
  (h:∀b h',Heap.SameBut a s.heap h'->gY kd kf h' a (iJ d k)->Q b { s with heap:=h' }):
  wpAny (model prog w) A (setAddHashed a (mk k tk) (kd.hash k)) Q E s:=by
 have hS0:=H;obtain⟨o,es,R,t,ho,q,hd,l,M,nd,hb,hf,r,N⟩:=H;have I:kd.is k (mk k tk)=true:=f.is k tk;have sz:es.size=d.length:=by rw[<-M.length_eq,vH,vF]
 refine wpAny_holding (wX (wpAny_setState_of ho hd hf ?_));dsimp only;rw[byScan_of (x:=mk k tk) (f.sc k tk) (by rw[sz];exact hb) l];simp only[↓reduceIte];unfold setAddByScan;refine wX ?_;refine wX (wpAny_rule ?_);refine wX (wpAny_setScan_of I ho hd hf l ?_);cases hr:List.findIdx? (λe=>kd.is k e.2) es.toList with
 |some j=>
  dsimp only;obtain⟨hj,u,_⟩:=List.findIdx?_eq_some_iff_getElem.mp hr;have hm:k∈d:=(tF f l M k).mpr ⟨es.toList[j],getElem_mem hj,u⟩;refine wY (wY ?_);simp_all[iJ,Heap.SameBut.refl]
 |none=>
  dsimp only;have hm:k∉d:=λz=>by
   obtain⟨e,he,hp⟩:=(tF f l M k).mp z;grind
  have P:iJ d k=d++[k]:=by unfold iJ;rw[if_neg hm]
  have v:∀(b:Bool){O:Shared}{g:Unit->Shared->Prop},g () O->wpAny (model prog w) A (match b with|true=>rule "set.scan.the-table-gave-way" | false=>pure ()) g E O:=
   λb O g hq=>by cases b<;>first|exact wY hq|exact wpAny_rule hq
  have U:=layNew_perm t es (kd.hash k) (mk k tk);have m:=layNew_fits t es (kd.hash k) (mk k tk);have n:=G5 t es (kd.hash k) (mk k tk) N;have p:=Ma t es (kd.hash k) (mk k tk);generalize S:layNew t es (kd.hash k) (mk k tk)=L at U m p n |-;obtain⟨J,T,V,W⟩:=L;rw[Array.toList_push]at U;have B:ElemsOf kd J.toList:=(l.push I (f.sc k tk)).perm U;have C:(J.toList.map (λe=>kf e.2)).Perm (d++[k]):=(U.map _).trans (by rw[uV,List.map_singleton,f.kf];exact M.append_right _);have D:(d++[k]).Nodup:=by
   rw[nodup_append];refine⟨nd,V9,λx hx y hy=>?_⟩;rw[mem_singleton]at hy;subst hy;exact λz=>hm (z ▸ hx)
  have hb1:(d++[k]).length<scanBound:=by rw[uY];exact K
  refine wX (v _ ?_);have F:=λh' c i=>h true h' c (by rw[P];exact i);have G:∀(b:Bool)(O:Shared)(g:Unit->Shared->Prop),g () O->wpAny (model prog w) A (match b with|true=>rule "set.scan.the-table-gave-way" | false=>pure ()) g E O:=λb O g hq=>by cases b<;>first|exact wY hq|exact wpAny_rule hq
  split
  .refine wX ?_;rw[hashByValue_scannable 8 (x:=mk k tk) (f.sc k tk)];refine wY ?_;cases plainKind (mk k tk) with
   |false=>exact pY G ho q hd B C D hb1 (SetTable.fits_plain_off m) (p.trans r) n λh' c i=>wY (F h' c i)
   |true=>exact pY G ho q hd B C D hb1 m (p.trans r) n λh' c i=>wY (F h' c i)
  .exact pY G ho q hd B C D hb1 m (p.trans r) n λh' c i=>wY (F h' c i)
end
section
variable {κ:Type}[DecidableEq κ] {ts:List κ}{x y:κ}
def dU (ss:List κ):List κ:=ss.foldl iJ []
theorem pZ (h:ts.Nodup)(x:κ):(iJ ts x).Nodup:=by
 grind[iJ]
theorem qc:y∈iJ ts x↔y∈ts\/y=x:=by
 unfold iJ;split
 .rename_i hm;exact⟨.inl,λz=>z.elim id λe=>e ▸ hm⟩
 .simp
theorem vE (ss:List κ):∀ts:List κ,(ss.foldl iJ ts).length<=ts.length+ss.length:=by
 induction ss with
 |nil=>simp
 |cons x r M=>grind[G6]
theorem lN (ss:List κ):(dU ss).length<=ss.length:=by have:=vE ss [];simpa [dU]using this
theorem DR (ss:List κ)(x:κ):dU (ss++[x])=iJ (dU ss) x:=by simp_all[dU]
end
theorem StrsAre.at:∀ {vs:LU}{ss:LS},StrsAre vs ss->∀(i:Nat)(v:Value),vs[i]? = some v->∃x t,v=.str x t/\ss[i]? = some x
 |_,_,.nil,i,v,h=>by simp at h
 |_,_,.cons x t hr,0,v,h=>by simp at h;exact⟨x,t,h.symm,rr⟩
 |_,_,.cons x t hr,i+1,v,h=>by
  exact StrsAre.at hr i v h
theorem gY.at {prog:Program}{w:World}{κ:Type}[DecidableEq κ]{kd:PySem.KeyKind prog w κ}{kf:Value->κ}{M:List κ}(x:gY kd kf h a M)(k:∀o,h.get? a=some o->h'.get? a=some o):gY kd kf h' a M:=by
 obtain⟨o,es,O,t,ho,r⟩:=x;exact⟨o,es,O,t,k o ho,r⟩
section
variable {prog:Program}{w:World}{A:Around}{R:Result->Shared->Prop}{I:Addr}{fp wr:List Addr}{G:Array GenState->Array GenState->Prop}{n:Nat}{P:Nat->Value->Prop}{St:Nat->Shared->Prop}{κ:Type}[DecidableEq κ] {kd:PySem.KeyKind prog w κ}{kf:Value->κ}{mk:κ->Tok->Value}
theorem wa (j:KOf kd kf mk)(W:WalksS prog w A.in1 I fp wr G n P St)(S:Addr)(U:S∉fp)(ss:List κ)(hn:ss.length=n)
  (p:∀i v,P i v->∃x t,v=mk x t/\ss[i]? = some x) (hb:n+1<scanBound):
  ∀(k i:Nat)(s:Shared),n - i=k->i<=n->St i s->gY kd kf s.heap S (dU (ss.take i)) ->
   (∀s',Moved (S::wr) G s s'->gY kd kf s'.heap S (dU ss)->R (.ok (.ret .none)) s') ->
   codeAny (model prog w) A (.builtin "set.update.loop" ⟨[.ref S,.ref I],[]⟩) R s:=by
 have l:S∉wr:=λh=>U (W.sub _ h);have M:∀b∈wr,b∈S::wr:=λb hb=>mZ _ hb;intro k;induction k with
 |zero=>
  intro i s hk hi O g hR;have q:i=n:=by omega
  subst q;refine codeAny_builtin PyProof.Rows.F.entry_set_update_loop ?_;refine wX (W.done s _ _ O λs' hm=>?_);show wpAny _ A.in1 (ret Value.none) _ _ s';refine wY (hR s' (hm.mono M) ?_);rw[List.take_of_length_le (by omega)]at g;exact g.at λo e=>hm.heap S _ l e
 |succ k r=>
  intro i s hk hi O g hR;have m:i<n:=by omega
  refine codeAny_builtin PyProof.Rows.F.entry_set_update_loop ?_;refine wX (W.item i s _ _ m O λv s' u a hm=>?_);obtain⟨x,t,rfl,hx⟩:=p i v u;have y:gY kd kf s'.heap S (dU (ss.take i)):=g.at λo e=>hm.heap S _ l e;refine wX (wpAny_holding ?_);unfold setAdd;refine wpAny_holding ?_;refine wX (kd.pyHash (k:=x) (j.is x t) ?_);have hl:(dU (ss.take i)).length+1<scanBound:=by grind[lN]
  refine Av j (s:={ s' with toks:=s'.toks+1 }) y hl λb h' c C=>?_;have z:gY kd kf h' S (dU (ss.take (i+1))):=by
   simp_all[take_add_one,DR]
  refine wY ⟨plainId_quiet PyProof.Rows.F.plain_set_update_loop _,r (i+1) _ (by omega) m (W.frame _ s' _ _ a (le_succ _) λb hb o e=>?_) z λB d f=>?_⟩
  .rw[c.2 b (λh:b=S=>U (by rw[<-h];exact hb))];exact e
  .refine hR B (Moved.trans W.gtrans ((hm.mono M).then_heap (le_succ _) λb o hb e=>?_) d) f;rw[c.2 b (λh:b=S=>hb (by rw[h];exact mX))];exact e
end
section
variable {prog:Program}{w:World}{A:Around}{E:QV}{s:Shared}{κ:Type}[DecidableEq κ] {kd:PySem.KeyKind prog w κ}{kf:Value->κ}{mk:κ->Tok->Value}
noncomputable abbrev dj (w:World):Obj:={ cls:=.type "set",dict:=none,data:=.set #[] 0 (.fresh 0 0 (!w.params.followText "set-order")) }
theorem yf (a:Value)
  (h:Q₁ (.ref s.z) { s with heap:=s.heap.push (dj w) }):
  codeAny (model prog w) A (.call (.builtin "set.__new__") ⟨[.type "set",a],[]⟩) (wants Q₁ E) s:=by
 refine codeAny_of_tree ?_;refine wX (wpAny_of_eq (PySem.F.newCall_set_1 a) (wY ⟨plainId_quiet PySem.F.plain_set_new _,codeAny_builtin PySem.F.entry_set_new ?_⟩));unfold Builtin.«set.__new__» Builtin.Frozenset.newClass;have M:=sub_set_self;wp_walk;refine wpAny_askSetting (wY ?_);refine wX (wpAny_alloc (wY ?_));exact wY h
set_option maxHeartbeats 3200000 in
theorem sC (B:KOf kd kf mk){ss:List κ}
  (hh:A.handled=none) (hl:s.heap.IsList l items) (C:∀(i:Nat)(v:Value),items[i]? = some v->∃x t,v=mk x t/\ss[i]? = some x) (D:ss.length=items.size) (hb:items.size+1<scanBound)
  (h:∀(h':Heap)(tk:Nat),gY kd kf h' s.z (dU ss) ->
   (∀b o,b<s.z->s.heap.get? b=some o->h'.get? b=some o)->Q (.ref s.z) { s with heap:=h',toks:=tk }):
  wpAny (model prog w) A (call (.type "set") [.ref l]) Q E s:=by
 obtain⟨c,tl,G⟩:=called_set.mro;have ZZ:=called_set.made;have H:=called_set.sub;refine wpAny_call (codeAny_of_tree ?_);show wpAny _ _ (callAny (.type "set") _) _ _ _;refine wY ⟨Code.quiet_builtin _ H9,codeAny_builtin PySem.F.entry_type_call ?_⟩;rw[Around.under_plain (weight_type_call_type "set" [.ref l] []) rr];have h1:=called_set.notType;have h2:=called_set.canCreate;have I:=PySem.F.typeCall_set_1 (.ref l);repeat (any_goals (first|assumption|wp_step))
 refine codeAny_mono (yf (.ref l) (E:=E) (Q₁:=λobj U=>obj=.ref s.z/\U={ s with heap:=s.heap.push (dj w) }) ⟨rr,rr⟩) λr U hr=>?_;cases r with
 |error e=>exact hr
 |ok fl=>
  cases fl with
  |ret obj=>
   obtain⟨rfl,rfl⟩:=hr;have n:(s.heap.push (dj w)).get? s.z=some (dj w):=vY _ rr;have J:Shared.TypeIs { s with heap:=s.heap.push (dj w) } (.ref s.z) "set":=⟨_,n,rr⟩;have K:=called_set.init.lookup;have Yv:=called_set.init.bind (.ref s.z);repeat (any_goals (first|assumption|wp_step))
   refine codeAny_mono (codeAny_call_builtin (R:=wants (λr a=>r=.none/\∃h' tk,a={ s with heap:=h',toks:=tk } /\
     gY kd kf h' s.z (dU ss) /\
     (∀b o,b<s.z->s.heap.get? b=some o->h'.get? b=some o)) E) called_set.init.plain PySem.F.entry_set_init (check_set_init_1 J ?_)) λf a M=>?_
   .obtain⟨L,p,q,u,y⟩:=hl;obtain⟨N,P,S,O⟩:=L;simp only at q y;subst q;subst y;have T:(s.heap.push (dj w)).get? l=some { cls:=.type "list",dict:=P,data:=.seq items u,slots:=O }:=vZ _ p;have V:=PySem.F.sub_list_set;have W:=PySem.F.sub_list_frozenset;have zK:(Value.type "list" == Value.type "dict")=false:=Z9
    have z:(s.heap.push (dj w)).IsList l items:=⟨_,T,rr,u,rr⟩;unfold Builtin.«set.__init__» noKeywords Builtin.Frozenset.updateFrom;generalize g:pyIter=PI;wp_walk;subst g;refine wpAny_pyIter_list z ?_;refine wX (wpAny_runValue ?_);have X:l<s.z:=vX p;have j:A.in1.in1.in1.handled=none:=by simp[hh]
    have Y:l≠(s.heap.push (dj w)).objs.size:=by
     simp_all[vS,lt_succ_of_lt]
    have Z:s.z∉[(s.heap.push (dj w)).objs.size,l]:=by
     simp_all[ne_of_gt]
    refine wa B ((Walks.list j _ l Y items).toS) s.z
     Z ss D C hb (items.size - 0) 0 _ (by omega) (uM _)
     ⟨⟨_,vY _ rr,rr,rr⟩,(z.push _)⟩ ?hS0 ?hR
    case hS0=>
     have Yz:((s.heap.push (dj w)).push { cls:=.type "list_iterator",data:=.fields #[.ref l,.int 0 0] }).get? s.z
       = some (dj w):=vZ _ n
     exact⟨_,#[],0,_,Yz,⟨rr,rr,rr⟩,rr,λe he=>by simp at he,List.Perm.refl _,nodup_nil,(by show(0:Nat)<scanBound;decide),rr,rr,List.Pairwise.nil⟩
    case hR=>
     intro s' hm k
     obtain⟨h',g',d',VT,m⟩:=s'
     have eg:g'=s.gens:=hm.gens
     have ed:d'=s.drawn:=hm.drawn
     have eo:m=s.os:=hm.os
     subst eg;subst ed;subst eo
     show wpAny _ _ _ _ _ _
     refine wY ?_
     show wpAny _ _ (ret Value.none) _ _ _
     refine wY ⟨rr,h',VT,rr,k,λb o hb e=>?_⟩
     have hb1:b≠s.z:=vS hb
     have hb2:b≠(s.heap.push (dj w)).objs.size:=by
      simp_all[vS,lt_succ_of_lt]
     exact hm.heap b o (by simp_all) (vZ _ (vZ _ e))
   .cases f with
    |error e=>exact M
    |ok d=>
     cases d with
     |ret r=>
      obtain⟨rfl,h',tk,rfl,k,ND⟩:=M;repeat (any_goals (first|assumption|wp_step))
      exact h _ _ k ND
     |_=>exact M.elim
  |_=>exact hr.elim
end
open Sem (wp)
section
variable {M:Model}{A:Around}{E:QV}{s:Shared}
theorem Mb (hn:n≠0)(h:∀k d,k<n->Q k { s with drawn:=d }):wpAny M A (choose src n) Q E s:=by
 intro O p U;refine⟨hn,?_⟩;have:=h _ (s.drawn.bump src) (Nat.mod_lt (M.w.draws src (s.drawn.get src)) (Nat.pos_of_ne_zero hn));simp_all
end
theorem lO {α:Type}:∀(l:List α)(i:Nat),i<l.length->(l.eraseIdx i).length=l.length - 1:=by grind
theorem kZ {α:Type}:∀(l:List α)(i:Nat)(x:α),l[i]? = some x->(x::l.eraseIdx i).Perm l
 |[],i,x,h=>by simp at h
 |a::l,0,x,h=>by simp_all
 |a::l,i+1,x,h=>by
  exact(List.Perm.swap a x _).trans ((kZ l i x h).cons a)
theorem BJ {α:Type}:∀(n:Nat)(xs:List α)(s:Shared)(Q:List α->Shared->Prop),xs.length=n->(∀ys d,ys.Perm xs->Q ys { s with drawn:=d })->wpAny M A (drawOrder n xs) Q E s
 |0,xs,s,Q,hl,h=>by
  have:=List.eq_nil_of_length_eq_zero hl;subst this;exact wY (h [] _ (List.Perm.refl _))
 |n+1,[],s,Q,hl,h=>by simp at hl
 |n+1,x::r,s,Q,hl,h=>by
  refine wX (Mb V9 λk d hk=>?_);obtain⟨y,hy⟩:∃y,(x::r)[k]? = some y:=⟨_,vU hk⟩;rw[hy];refine wX (BJ n _ _ _ (by rw[lO _ _ hk,hl];rfl) λys d' hp=>wY (h _ _ ((hp.cons y).trans (kZ _ _ _ hy))))
theorem BK {α:Type}(next:Nat->Nat):∀(fuel k:Nat)(left:List α)(out:Array α),left.length=fuel->(pickOrder.go next fuel k left out).toList.Perm (out.toList++left)
 |0,k,left,out,hl=>by
  simp_all[pickOrder.go]
 |fuel+1,k,left,out,hl=>by
  unfold pickOrder.go;have hk:next k % left.length<left.length:=Nat.mod_lt _ N9;obtain⟨y,hy⟩:∃y,left[next k % left.length]? = some y:=⟨_,vU hk⟩;rw[hy];refine(BK _ _ _ _ _ (by rw[lO _ _ hk];lia)).trans ?_;rw[Array.toList_push,append_assoc];exact(kZ _ _ _ hy).append_left _
theorem DS {α:Type}(next:Nat->Nat)(xs:Array α):(pickOrder next xs).toList.Perm xs.toList:=by
 grind[BK,pickOrder]
theorem aZ:Slot "set_iterator" "__next__" "set_iterator.__next__" :=
 .of (owner:="set_iterator") (n:="__next__") I9 H9 H9 H9
  (by first|exact .inl H9|exact .inr _) W9
theorem dF:entryFor table "set_iterator.__next__" = some Builtin.«set_iterator.__next__»:=entryFor_of_tree W9
theorem eI (a:Value):argsOk "set_iterator.__next__" ⟨[a],[]⟩:=W9
theorem kH:Slot "set_iterator" "__iter__" "set_iterator.__iter__" :=
 .of (owner:="set_iterator") (n:="__iter__") I9 H9 H9 H9
  (by first|exact .inl H9|exact .inr _) W9
theorem qd:entryFor table "set_iterator.__iter__" = some Builtin.«dict_keyiterator.__iter__» :=
 entryFor_alias (id':="dict_keyiterator.__iter__") W9 rr H9 W9
theorem sD (a:Value):argsOk "set_iterator.__iter__" ⟨[a],[]⟩:=W9
theorem ph:entryFor table "set.__iter__" = some Builtin.«frozenset.__iter__» :=
 entryFor_alias (id':="frozenset.__iter__") W9 rr H9 W9
noncomputable abbrev lb (M:Value)(i:Nat)(S:Addr)(n O:Nat):Obj:={ cls:=.type "set_iterator",data:=.fields #[M,.int i 0,.ref S,.int n 0,.int O 0] }
section
variable {prog:Program}{w:World}{A:Around}{E:QV}{s:Shared}{it S:Addr}{i ep:Nat}{o:Obj}{es:Array (Int×Value)}{t:SetTable}
theorem cK (ho:s.heap.get? it=some (lb M i S n ep)):s.TypeIs (.ref it) "set_iterator":=⟨_,ho,rr⟩
theorem wb {k k':Nat}{x:Value}{Q:Option Value->Shared->Prop}(ho:s.heap.get? it=some (lb (.int k 0) i S es.size ep))
  (O:s.heap.get? S=some o) (hd:o.data=.set es ep t) (hf:t.fits es.size=true)
  (U:∀(a:Around)(b:QV)(M:Option (Value×Nat)->Shared->Prop),M (some (x,k')) s->wpAny (model prog w) a (setNext S k i ep) M b s)
  (c:∀h',h'.get? it=some (lb (.int k' 0) (i+1) S es.size ep)->Heap.SameBut it s.heap h'->Q (some x) { s with heap:=h' }):
  wpAny (model prog w) A (pyNext (.ref it)) Q E s:=by
 refine wX (wpAny_attempt (wpAny_callSpecial?_slot (cK ho) aZ
  (wpAny_call_entry aZ (cK ho) dF ?_ (eI _))))
 show wpAny _ _ (fieldsOf _>>=_) _ _ s;refine wX (wpAny_fieldsOf ho rr ?_);refine wX (wpAny_setEntries_of O hd hf ?_);rw[if_neg V9];refine wX (U _ _ _ ?_);refine wX (wpAny_setField_rec ho V9 λh1 d b1=>?_);refine wX (wpAny_setField_rec d V9 λh2 e2 b2=>?_);exact wY ⟨x,rr,wY (c h2 (by simpa [rawInt,lb]using e2) (b1.trans b2))⟩
theorem wc {k:Nat}{Q:Option Value->Shared->Prop}(hh:A.handled=none)(ho:s.heap.get? it=some (lb (.int k 0) i S es.size ep))
  (O:s.heap.get? S=some o) (hd:o.data=.set es ep t) (hf:t.fits es.size=true)
  (U:∀(a:Around)(b:QV)(M:Option (Value×Nat)->Shared->Prop),M none s->wpAny (model prog w) a (setNext S k i ep) M b s)
  (c:∀h',Heap.ExtBut it s.heap h'->Q none { s with heap:=h' }):
  wpAny (model prog w) A (pyNext (.ref it)) Q E s:=by
 refine wX (wpAny_attempt (wpAny_callSpecial?_slot (cK ho) aZ
  (wpAny_call_entry aZ (cK ho) dF ?_ (eI _))))
 show wpAny _ _ (fieldsOf _>>=_) _ _ s;refine wX (wpAny_fieldsOf ho rr ?_);refine wX (wpAny_setEntries_of O hd hf ?_);rw[if_neg V9];refine wX (U _ _ _ ?_);refine wX (wpAny_setField_rec ho V9 λh1 d b1=>?_);refine wX ?_;refine wX (m:=firstArgMember _ _) (wpAny_of_eq I9 ?_);refine wpAny_newObj_type ?_ s9;refine wX (wpAny_handled ?_);rw[show A.in1.handled=none from hh];refine wX (wY (wpAny_throw ?_));refine wX (wpAny_isInstance ⟨_,vY _ rr,rr⟩ isSubtype_stop ?_);exact wY (c _ ((b1.extBut.push _).push _))
theorem sE {T:Addr}{pl:LN}{p:Nat}{x:Int×Value}{nt:Nat}{Q:Option Value->Shared->Prop}(ho:s.heap.get? it=some (lb (.ref T) i S es.size ep))
  (U:s.heap.get? T=some (seqObj "tuple" (pl.map λ(p:Nat)=>Value.int p 0).toArray nt))
  (O:s.heap.get? S=some o) (hd:o.data=.set es ep t) (hf:t.fits es.size=true) (hp:pl[i]? = some p) (hx:es[p]? = some x)
  (a:∀h',h'.get? it=some (lb (.ref T) (i+1) S es.size ep)->Heap.SameBut it s.heap h'->Q (some x.2) { s with heap:=h' }):
  wpAny (model prog w) A (pyNext (.ref it)) Q E s:=by
 refine wX (wpAny_attempt (wpAny_callSpecial?_slot (cK ho) aZ
  (wpAny_call_entry aZ (cK ho) dF ?_ (eI _))))
 show wpAny _ _ (fieldsOf (.ref it)>>=_) _ _ s;refine wX (wpAny_fieldsOf ho rr ?_);refine wX (wpAny_setEntries_of O hd hf ?_);rw[if_neg V9];refine wX (wpAny_seqItems U rr ?_);have M:(pl.map λ(p:Nat)=>Value.int p 0).toArray[(i:Int).toNat]? = some (.int p 0):=by simp[hp]
 dsimp only;rw[M];have e2:wpAny (model prog w) A.in1 (setNextDrawn S (p:Int).toNat (ep:Int).toNat) (λy s'=>y=x.2/\s'=s) (λ_ _=>False) s:=by
  refine wX (wpAny_setState_of O hd hf ?_);simp_all[wY]
 refine wX (wpAny_mono e2 (λy s' hy=>?_) λ_ _ z=>z.elim);obtain⟨rfl,rfl⟩:=hy;refine wX (wpAny_setField_rec ho V9 λh1 M b1=>?_);exact wY ⟨_,rr,wY (a h1 (by simpa [rawInt,lb]using M) b1)⟩
theorem sG {T:Addr}{pl:LN}{nt:Nat}{Q:Option Value->Shared->Prop}(hh:A.handled=none)(ho:s.heap.get? it=some (lb (.ref T) i S es.size ep))
  (O:s.heap.get? T=some (seqObj "tuple" (pl.map λ(p:Nat)=>Value.int p 0).toArray nt))
  (U:s.heap.get? S=some o) (hd:o.data=.set es ep t) (hf:t.fits es.size=true) (hp:pl[i]? = none)
  (a:∀h',Heap.ExtBut it s.heap h'->Q none { s with heap:=h' }):
  wpAny (model prog w) A (pyNext (.ref it)) Q E s:=by
 refine wX (wpAny_attempt (wpAny_callSpecial?_slot (cK ho) aZ
  (wpAny_call_entry aZ (cK ho) dF ?_ (eI _))))
 show wpAny _ _ (fieldsOf _>>=_) _ _ s;refine wX (wpAny_fieldsOf ho rr ?_);refine wX (wpAny_setEntries_of U hd hf ?_);rw[if_neg V9];refine wX (wpAny_seqItems O rr ?_);have M:(pl.map λ(p:Nat)=>Value.int p 0).toArray[(i:Int).toNat]? = none:=by simpa using hp
 dsimp only;rw[M];refine wX (wpAny_setField_rec ho V9 λh0 b c=>?_);refine wX (wpAny_setField_rec b V9 λh1 M b1=>?_);refine wX ?_;refine wX (m:=firstArgMember _ _) (wpAny_of_eq I9 ?_);refine wpAny_newObj_type ?_ s9;refine wX (wpAny_handled ?_);rw[show A.in1.handled=none from hh];refine wX (wY (wpAny_throw ?_));refine wX (wpAny_isInstance ⟨_,vY _ rr,rr⟩ isSubtype_stop ?_);exact wY (a _ (((c.trans b1).extBut.push _).push _))
theorem yg (ho:s.heap.get? it=some (lb M i S n ep))(h:Q (.ref it) s):wpAny (model prog w) A (pyIter (.ref it)) Q E s:=by
 refine wpAny_pyIter_slot (cK ho) kH (wpAny_call_entry kH (cK ho) qd ?_ (sD _));exact wY ⟨_,rr,"set_iterator",_,cK ho,aZ.lookup,h⟩
end
section
variable {prog:Program}{w:World}{A:Around}{E:QV}{s:Shared}{it S:Addr}{i k ep:Nat}{o:Obj}{es:Array (Int×Value)}{t:SetTable}
theorem tH (M:s.heap.get? S=some o)(hd:o.data=.set es ep t)(hf:t.fits es.size=true)(hb:w.params.followText "set-order" = true)
  (h:Q (((pickOrder (w.params.setOrder S ep) es)[i]?).map λe=>(e.2,k)) s):wpAny (model prog w) A (setNext S k i ep) Q E s:=by
 refine wX (wpAny_setState_of M hd hf ?_);show wpAny _ _ (if w.params.followText _=true then _ else _) _ _ _;rw[if_pos hb,if_neg V9];refine wX (wX (wpAny_setState_of M hd hf ?_));show wpAny _ _ (if w.params.followText _=true then _ else _) _ _ _;rw[if_pos hb];refine wX (wpAny_askSetting (wY ?_));exact wY h
theorem qe (M:s.heap.get? S=some o)(hd:o.data=.set es ep t)(hf:t.fits es.size=true)(hb:w.params.followText "set-order" = false)(hl:t.led=true)(hz:(!t.plain && decide (es.size > 1))=false)
  (h:Q (match es[SetTable.below t.place k]?,t.place[SetTable.below t.place k]? with
   |some (_,x),some j=>some (x,j+1)
   |_,_=>none) s):wpAny (model prog w) A (setNext S k i ep) Q E s:=by
 refine wX (wpAny_setState_of M hd hf ?_);show wpAny _ _ (if w.params.followText _=true then _ else _) _ _ _;rw[if_neg (by rw[hb];simp)];show wpAny _ _ (if(!t.plain && decide _)=true then _ else _) _ _ _;rw[if_neg (by rw[hz];simp)];show wpAny _ _ ((if(!t.led && !es.isEmpty)=true then unsupported _ else pure ())>>=_) _ _ _;rw[hl];exact wY h
theorem tI (hh:A.handled=none)(hd:o.data=.set es ep t)(hf:t.fits es.size=true)(c:S≠it)(vs:LU)(hv:vs.length=es.size)(sl:Nat->Nat)
  (d:∀i x,vs[i]? = some x->∀(O:Around)(U:QV)(s:Shared)(M:Option (Value×Nat)->Shared->Prop),s.heap.get? S=some o->M (some (x,sl (i+1))) s->wpAny (model prog w) O (setNext S (sl i) i ep) M U s)
  (f:∀(O:Around)(U:QV)(s:Shared)(M:Option (Value×Nat)->Shared->Prop),s.heap.get? S=some o->M none s->wpAny (model prog w) O (setNext S (sl es.size) es.size ep) M U s):
  Walks prog w A it [it,S] [it] es.size (λi v=>vs[i]? = some v) (λi h=>h.get? it=some (lb (.int (sl i) 0) i S es.size ep)/\h.get? S=some o) where
 sub:=λb hb=>by simp at hb;simp[hb]
 frame:=λ_ _ _ st hk=>⟨hk it V9 _ st.1,hk S V9 _ st.2⟩
 item:=λi s Q E hi st a=>by
  obtain⟨x,hx⟩:∃x,vs[i]? = some x:=⟨_,vU (by omega)⟩;refine wb st.1 st.2 hd hf (λO U M q=>d i x hx O U s M st.2 q) λh' h1 h2=>?_;exact a x h' _ hx ⟨h1,h2.extBut S _ c st.2⟩ λb u hb e=>h2.extBut b u (λz=>hb (by simp[z])) e
 done:=λs Q E st a=>wc hh st.1 st.2 hd hf (λO U M q=>f O U s M st.2 q) λh' h1=>a h' _ λb u hb e=>h1 b u (λz=>hb (by simp[z])) e
 self:=λ_ _ _ _ st a=>yg st.1 a
theorem Aw {T:Addr}{pl:LN}{nt:Nat}(hh:A.handled=none)(hd:o.data=.set es ep t)(hf:t.fits es.size=true)(U:S≠it)(a:T≠it)(hp:pl.Perm (List.range es.size)):
  Walks prog w A it [it,S,T] [it] es.size (λi v=>(pl.map λp=>(es.getD p (0,.none)).2)[i]? = some v)
   (λi h=>h.get? it=some (lb (.ref T) i S es.size ep)/\h.get? S=some o/\h.get? T=some (seqObj "tuple" (pl.map λ(p:Nat)=>Value.int p 0).toArray nt)) where
 sub:=λb hb=>by simp at hb;simp[hb]
 frame:=λ_ _ _ st hk=>⟨hk it V9 _ st.1,hk S V9 _ st.2.1,hk T V9 _ st.2.2⟩
 item:=λi s Q E hi st M=>by
  have O:pl.length=es.size:=by rw[hp.length_eq,length_range]
  obtain⟨p,hx⟩:∃p,pl[i]? = some p:=⟨_,vU (by omega)⟩;have c:=mem_range.mp (hp.mem_iff.mp (vL hx));have he:es[p]? = some (es.getD p (0,.none)):=by simp_all
  refine sE st.1 st.2.2 st.2.1 hd hf hx he λh' h1 h2=>?_;exact M _ h' _ (by simp[hx]) ⟨h1,h2.extBut S _ U st.2.1,h2.extBut T _ a st.2.2⟩ λb u hb e=>h2.extBut b u (λz=>hb (by simp[z])) e
 done:=λs Q E st M=>by
  have O:pl.length=es.size:=by rw[hp.length_eq,length_range]
  exact sG hh st.1 st.2.2 st.2.1 hd hf (getElem?_eq_none (by omega)) λh' h1=>M h' _ λb u hb e=>h1 b u (λz=>hb (by simp[z])) e
 self:=λ_ _ _ _ st M=>yg st.1 M
end
theorem Ax {α:Type}(es:Array α)(d:α):(List.range es.size).map (λp=>es.getD p d)=es.toList:=by
 apply ext_getElem?;intro i;by_cases h:i<es.size
 .simp_all
 .simp[h]
section
variable {prog:Program}{w:World}{A:Around}{E:QV}{s:Shared}
theorem G7 {κ:Type}[DecidableEq κ]{kd:PySem.KeyKind prog w κ}{kf:Value->κ}{mk:κ->Tok->Value}(G:KOf kd kf mk){S:Addr}{f:List κ}{Q:QV}(H:gY kd kf s.heap S f)
  (m:∀(h':Heap)(d:Drawn)(it:Addr)(vs:LU)(fp:List Addr)(St:Nat->Heap->Prop),(∀a,a.handled=none->Walks prog w a it fp [it] f.length (λi v=>vs[i]? = some v) St)->St 0 h' ->
   (∀b u,s.heap.get? b=some u->h'.get? b=some u)->s.z<=it->(∀b∈fp,b=S\/s.z<=b)->vs.length=f.length->(vs.map kf).Perm f->(∀v∈vs,∃x t,v=mk x t) ->
   Q (.ref it) { s with heap:=h',drawn:=d }):wpAny (model prog w) A (pyIter (.ref S)) Q E s:=by
 obtain⟨o,es,c,t,ho,I,hd,J,hp,nd,hb,hf,K,B⟩:=H;have sz:es.size=f.length:=by rw[<-hp.length_eq,vH,vF]
 have C:S<s.z:=vX ho;have g:s.TypeIs (.ref S) "set":=⟨_,ho,I.1⟩;have U:∀e∈es.toList,∃x t,e.2=mk x t:=λe he=>by
  obtain⟨⟨k,hk,_⟩,_⟩:=J e he;obtain⟨t,q⟩:=G.of hk;exact⟨k,t,q⟩
 refine wpAny_pyIter_slot g slot_set_iter (wpAny_call_entry slot_set_iter g ph ?_ (PySem.F.args_set_iter_1 _));show wpAny _ _ (Builtin.Frozenset.sizeOf S>>=_) _ _ s;unfold Builtin.Frozenset.sizeOf;refine wX (wX (wpAny_setEntries_of ho hd hf (wY ?_)));unfold setDrawn setsByText;refine wX (wX (wpAny_setState_of ho hd hf ?_));dsimp only;refine wX (wX (wpAny_askSetting (wY (wY ?_))));show wpAny _ _ (if(!w.params.followText "set-order" && (!t.plain && decide (es.size > 1)))=true then _ else _) _ _ _;have n:(es.toList.map (·.2)).map kf=es.toList.map (λe=>kf e.2):=by rw[uO];rfl
 by_cases M:w.params.followText "set-order" = true
 .rw[if_neg (by rw[M];simp)];refine wX (wY ?_);refine wX (wpAny_setEpoch_of ho hd hf ?_);have pp:=DS (w.params.setOrder S c) es;have D:((pickOrder (w.params.setOrder S c) es).toList.map (·.2)).length=es.size:=by rw[vH,pp.length_eq,vF]
  refine wX (wpAny_newObj_type (wY ⟨_,rr,"set_iterator",_,⟨_,vY _ rr,rr⟩,aZ.lookup,?_⟩));refine m _ s.drawn s.z ((pickOrder (w.params.setOrder S c) es).toList.map (·.2)) [s.z,S] (λi h=>h.get? s.z=some (lb (.int ((λ_=>0:Nat->Nat) i:Nat) 0) i S es.size c)/\h.get? S=some o) (λa j=>?_) ?_ (λb u e=>vZ _ e) (vT _) (λb hb=>?_) (D.trans sz) ?_ ?_
  .rw[<-sz];exact tI j hd hf (vS C) _ D (λ_=>0) (λi x hx a r s y h1 h2=>tH h1 hd hf M (by
    rw[uZ,Array.getElem?_toList]at hx;obtain⟨e,he,rfl⟩:=oY hx;rw[he];exact h2)) (λa r s y h1 h2=>tH h1 hd hf M (by
    simp_all))
  .exact⟨vY _ rr,vZ _ ho⟩
  .grind
  .refine List.Perm.trans ?_ hp;rw[<-n];exact(pp.map _).map _
  grind
 .rw[Bool.not_eq_true]at M;have hl:t.led=true:=by rw[K,M];rfl
  by_cases h1:(!t.plain && decide (es.size > 1))=false
  .rw[if_neg (by rw[h1];simp)];refine wX (wY ?_);refine wX (wpAny_setEpoch_of ho hd hf ?_);refine wX (wpAny_newObj_type (wY ⟨_,rr,"set_iterator",_,⟨_,vY _ rr,rr⟩,aZ.lookup,?_⟩));have l:∀i,i<=es.size->SetTable.below t.place (if i=0 then 0 else t.place.getD (i - 1) 0+1)=i:=λi hi=>by
    by_cases h0:i=0
    .rw[if_pos h0,As B,h0]
    .rw[if_neg h0,Ar B (i:=i - 1) (by rw[Array.getD_eq_getD_getElem?,Array.getElem?_eq_getElem (by have:t.place.size=es.size:=by { simp only[SetTable.fits,vB,beq_iff_eq,decide_eq_true_eq]at hf;exact hf.1 };omega)];rfl)];omega
   have L:t.place.size=es.size:=by
    simp_all[SetTable.fits]
   refine m _ s.drawn s.z (es.toList.map (·.2)) [s.z,S] (λi h=>h.get? s.z=some (lb (.int ((λi=>if i=0 then 0 else t.place.getD (i - 1) 0+1:Nat->Nat) i:Nat) 0) i S es.size c)/\h.get? S=some o) (λa j=>?_) ?_ (λb u e=>vZ _ e) (vT _) (λb hb=>?_) (by simp_all) (by rw[n];exact hp) ?_
   .rw[<-sz];refine tI j hd hf (vS C) _ V9 (λi=>if i=0 then 0 else t.place.getD (i - 1) 0+1) (λi x hx a r s y z q2=>qe z hd hf M hl h1 ?_) (λa r s y z q2=>qe z hd hf M hl h1 ?_)
    .rw[l i (by have:=(vV hx).1;simp at this;omega)];rw[uZ,Array.getElem?_toList]at hx;obtain⟨e,he,rfl⟩:=oY hx;have hi:=(Array.getElem?_eq_some_iff.mp he).1;simp_all
    .rw[l es.size (vT _),Array.getElem?_eq_none (vT _)];exact q2
   .exact⟨vY _ rr,vZ _ ho⟩
   .grind
   .intro v hv;obtain⟨e,he,rfl⟩:=vO hv;exact U e he
  .rw[if_pos (by rw[M];simpa using h1)];refine wX (BJ es.size (List.range es.size) _ _ V9 λpl d pp=>?_);refine wX (wpAny_newTuple ?_ (by rw[vH,pp.length_eq,length_range,sz];exact fits_of_scanBound hb));refine wX (wpAny_setEpoch_of (vZ _ ho) hd hf ?_);refine wX (wpAny_newObj_type (wY ⟨_,rr,"set_iterator",_,⟨_,vY _ rr,rr⟩,aZ.lookup,?_⟩));have hsz:(s.heap.push (seqObj "tuple" (pl.map λ(p:Nat)=>Value.int p 0).toArray 0)).objs.size=s.z+1:=size_push' _ _;have O:((pl.map λp=>(es.getD p (0,.none)).2)).Perm (es.toList.map (·.2)):=by
    have:=(pp.map λp=>es.getD p (0,Value.none)).map (·.2);rw[Ax]at this;rw[uO]at this;exact this
   refine m _ d _ (pl.map λp=>(es.getD p (0,.none)).2) [(s.heap.push (seqObj "tuple" (pl.map λ(p:Nat)=>Value.int p 0).toArray 0)).objs.size,S,s.z] (λi h=>h.get? (s.heap.push (seqObj "tuple" (pl.map λ(p:Nat)=>Value.int p 0).toArray 0)).objs.size=some (lb (.ref s.z) i S es.size c)/\h.get? S=some o/\h.get? s.z=some (seqObj "tuple" (pl.map λ(p:Nat)=>Value.int p 0).toArray 0)) (λa j=>?_) ?_ (λb u e=>vZ _ (vZ _ e)) ?_ (λb hb=>?_) ?_ ?_ ?_
   .rw[<-sz];exact Aw (nt:=0) j hd hf (by simp_all[vS,lt_succ_of_lt]) V9 pp
   .exact⟨vY _ rr,vZ _ (vZ _ ho),vZ _ (vY _ rr)⟩
   .simp
   .grind
   .rw[O.length_eq,vH,vF,sz]
   .exact((O.map kf).trans (by rw[n])).trans hp
   .intro v hv;obtain⟨e,he,rfl⟩:=vO (O.mem_iff.mp hv);exact U e he
end
theorem DT (h:ItemsOf (λi v=>vs[i]? = some v) acc vs.length):acc.toList=vs:=by
 apply ext_getElem?;intro i;by_cases hi:i<acc.size
 .have e:=Array.getElem?_eq_getElem hi;rw[Array.getElem?_toList,e,h.2 i _ e]
 .rw[getElem?_eq_none (by rw[vF];omega),getElem?_eq_none (by rw[<-h.1];omega)]
section
variable {prog:Program}{w:World}{A:Around}{E:QV}{s:Shared}{κ:Type}[DecidableEq κ] {kd:PySem.KeyKind prog w κ}{kf:Value->κ}{mk:κ->Tok->Value}
theorem yh (y:KOf kd kf mk)(hh:A.handled=none)(j:gY kd kf s.heap S ts)
  (B:∀s' vs,(∀b u,s.heap.get? b=some u->s'.heap.get? b=some u)->s'.gens=s.gens->s'.os=s.os->vs.length=ts.length->(vs.map kf).Perm ts->(∀v∈vs,∃x t,v=mk x t)->Q vs s'):
  wpAny (model prog w) A (collect (.ref S)) Q E s:=by
 have M:∀(s1:Shared),gY kd kf s1.heap S ts->s1.TypeIs (.ref S) "set":=λs1 h=>by
  obtain⟨o,_,_,_,ho,C,_⟩:=h;exact⟨o,ho,C.1⟩
 have D:S<s.z:=by obtain⟨o,_,_,_,ho,_⟩:=j;exact vX ho
 have U:ts.length<scanBound:=by obtain⟨_,_,_,_,_,_,_,_,_,_,h,_⟩:=j;exact h
 unfold collect;refine wX (wpAny_runValue (codeAny_builtin PySem.F.entry_proto_collect ?_));refine wX (wpAny_newObj_type ?_);refine wY ⟨plainId_quiet PySem.F.plain_list_iadd _,codeAny_builtin PySem.F.entry_list_iadd ?_⟩;rw[Around.under_plainId PySem.F.plain_list_iadd _];show wpAny _ A.in1 (Builtin.List.listExtendWith (.ref s.z) (.ref S) (.ref s.z)) _ _ _;unfold Builtin.List.listExtendWith;have k:gY kd kf (s.heap.push { cls:=.type "list",data:=.seq ([]:LU).toArray }) S ts:=j.at λo e=>vZ _ e;refine wX (wpAny_typeOf (M _ k) ?_);have G:s.z≠S:=ne_of_gt D;have h1:Builtin.List.listSameRef (.ref s.z) (.ref S)=false:=by simp[Builtin.List.listSameRef,G]
 have h2:(Value.type "set" == Value.type "list")=false:=Z9
 have h3:(Value.type "set" == Value.type "tuple")=false:=Z9
 simp only[h1,h2,h3,Bool.or_false,uU,if_false];refine wX (G7 y k λh' d it vs fp St W H hk u9 I p a J=>?_);have l:gY kd kf h' S ts:=k.at λo e=>hk _ _ e;refine wX (wpAny_holding ?_);unfold Builtin.List.listLengthHint;refine wX (wpAny_specialOf (M _ l) PySem.F.slot_set_len.lookup ?_);wp_delta;refine wX (wpAny_isInstance (M _ l) sub_set_self ?_);show wpAny _ A.in1 (typeOf (Value.ref S)>>=_) _ _ _;refine wX (wpAny_typeOf (M _ l) ?_);refine wY ?_;rw[if_pos Z9];refine wX (wpAny_rule ?_);refine wX ?_;have K:(s.heap.push { cls:=.type "list",data:=.seq ([]:LU).toArray }).objs.size=s.z+1:=size_push' _ _;have c:=hk _ _ (vY _ rr);refine wX (wpAny_updateSeq c rr ?_);have f:=Heap.get?_update_self (Obj.mapSeq (·.push Value.none)) c rr;refine wpAny_updateSeq f rr ?_;have m:=Heap.get?_update_self (Obj.mapSeq (·.pop)) f rr;have q:s.z∉fp:=λhm=>by
  grind
 have g:∀b u,b≠s.z->h'.get? b=some u ->
   ((h'.update s.z (Obj.mapSeq (·.push Value.none))).update s.z (Obj.mapSeq (·.pop))).get? b=some u:=
  λb u hb e=>(Heap.get?_update_other _ _ (Ne.symm hb)).trans ((Heap.get?_update_other _ _ (Ne.symm hb)).trans e)
 have r:=W A.in1 hh;refine wY ⟨plainId_quiet plain_extend_loop _,codeAny_extend_loopS r.toS (fits_of_scanBound U) _ q _ ts.length 0 _ _ _ rr (uM _)
  (r.frame 0 _ _ H λb hb u e=>g b u (λz=>q (z ▸ hb)) e) m (ItemsOf.nil _) λs' i L hm n O=>?_⟩
 show wpAny _ A (load s.z>>=_) _ _ s';refine wX (wpAny_load n ?_);rw[<-p]at O;refine wY ?_;show Q i.toList s';rw[DT O];refine B s' vs (λb u e=>hm.heap b u (λhb=>?_) (g b u (vS (vX e)) (hk _ _ (vZ _ e)))) hm.gens hm.os p a J;have hl:=vX e;simp_all<;>lia
def yi (prog:Program)(w:World)(kf:Value->κ)(mk:κ->Tok->Value)(R:List κ->LU->Prop):Prop:=∀ {E:QV}{M:List κ}{vs:LU}{A:Around}{s:Shared}{a:Addr}{P},(∀v∈vs,∃x t,v=mk x t)->(vs.map kf).Perm M->vs.length<64 ->
 s.heap.get? a=some (seqObj "list" vs.toArray 0)->(∀out:AV,R M out.toList->P (.done (.ret .none)) { s with heap:=sortedHeap s.heap a vs out })->wpAny (model prog w) A (Builtin.«list.sort» ⟨[.ref a],[]⟩) P E s
theorem Ay (d:KOf kd kf mk)(so:yi prog w kf mk R)(hh:A.handled=none)(f:gY kd kf s.heap S ts)(g:ts.length<64)
  (h:∀(s1:Shared)(h':Heap)(a:Addr)(out:AV)(n:Nat),(∀b u,s.heap.get? b=some u->s1.heap.get? b=some u)->s1.os=s.os->s1.gens=s.gens->(∀b u,s1.heap.get? b=some u->h'.get? b=some u)->s1.z<=a->h'.get? a=some (seqObj "list" out n) ->
   R ts out.toList->Q (.ref a) { s1 with heap:=h' }):
  wpAny (model prog w) A (call (.builtin "sorted") [.ref S]) Q E s:=by
 refine Calls.call_function_entry kind_sorted plain_sorted entry_sorted (args_sorted1 _) ?_;unfold Builtin.«sorted»;refine wX (m:=checkCount "sorted" 1 1 _) (wY ?_);refine wX (yh d (A:=A.in1) (by exact hh) f λs1 vs hk i c U M j=>?_);refine wX (wpAny_newList ?_ (by rw[U,sizeLine_eq];omega));have O:(s1.heap.push (seqObj "list" vs.toArray 0)).get? s1.z=some (seqObj "list" vs.toArray 0):=vY _ rr;show wpAny _ _ _ _ _ { s1 with heap:=s1.heap.push (seqObj "list" vs.toArray 0) };refine wX (wpAny_holding (wpAny_call_entry slot_list_sort ⟨_,O,rr⟩ entry_list_sort (so j M (by rw[U];exact g) O λout hr=>⟨_,rr,?_⟩) (args_list_sort _)));obtain⟨e,he⟩:=sortedHeap_at (out:=out) O;refine wY ⟨_,rr,h s1 _ _ _ e hk c i (λb u q=>?_) (vT _) he hr⟩;have hl:=vX q;rw[sortedHeap_old (vS hl) (by simp_all[lt_succ_of_lt])];exact vZ _ q
end
end DL
namespace DL
open PySem PySem.Spec PyProof.Rows L2
def yj (a b:Str):Prop:=¬b.cps.toList<a.cps.toList
theorem BL:ltCps b.cps.toList a.cps.toList=false↔yj a b:=by rw[ltCps_eq,decide_eq_false_iff_not];rfl
theorem tJ (h:yj a b)(k:yj b c):yj a c:=by
 grind[yj]
theorem G8 (h:yj a b)(k:yj b a):a=b:=by
 have e:=List.le_antisymm (not_lt.mp h) (not_lt.mp k);obtain⟨a⟩:=a;simp_all
noncomputable def Az (x:Str):LS->LS
 |[]=>[x]
 |y::r=>if ltCps y.cps.toList x.cps.toList then y::Az x r else x::y::r
def kI (l:LS):LS:=l.foldr Az []
theorem mT (x:Str):∀l,(Az x l).Perm (x::l)
 |[]=>List.Perm.refl _
 |y::r=>by
  unfold Az;split
  .exact((mT x r).cons y).trans (List.Perm.swap x y r)
  rfl
theorem dm:∀l,(kI l).Perm l
 |[]=>List.Perm.refl _
 |x::l=>(mT x _).trans ((dm l).cons x)
theorem tK (x:Str):∀l,l.Pairwise yj->(Az x l).Pairwise yj
 |[],_=>by simp[Az]
 |y::r,h=>by
  obtain⟨h1,h2⟩:=pairwise_cons.mp h;unfold Az;split
  .rename_i hl;refine pairwise_cons.mpr ⟨λz hz=>?_,tK x r h2⟩;rcases vP ((mT x r).mem_iff.mp hz)with rfl|hz
   .rw[ltCps_eq,decide_eq_true_eq]at hl;exact λk=>lt_irrefl _ (lt_trans hl k)
   simp_all
  .rename_i hl;rw[Bool.not_eq_true]at hl;have M:=BL.mp hl;refine pairwise_cons.mpr ⟨λz hz=>?_,h⟩;rcases vP hz with rfl|hz
   .exact M
   .exact tJ M (h1 z hz)
theorem qg:∀l,(kI l).Pairwise yj
 |[]=>List.Pairwise.nil
 |x::l=>tK x _ (qg l)
theorem oq:∀(l:LS)(p:Str),risingS p l=true->(p::l).Pairwise yj
 |[],p,_=>List.pairwise_singleton _ _
 |x::r,p,h=>by
  have h':(!ltCps _ _ && risingS x r)=true:=h;rw[vB]at h';have M:=BL.mp (by simpa using h'.1);have O:=oq r x h'.2;refine pairwise_cons.mpr ⟨λz hz=>?_,O⟩;rcases vP hz with rfl|hz
  .exact M
  .exact tJ M ((pairwise_cons.mp O).1 z hz)
theorem yk:∀(l:LS),sortedS l=true->l.Pairwise yj
 |[],_=>List.Pairwise.nil
 |x::r,h=>oq r x h
theorem ym (a:Str):yj a a:=lt_irrefl _
theorem qh:∀(l1 l2:LS),l1.Perm l2->l1.Pairwise yj->l2.Pairwise yj->l1=l2
 |[],l2,p,_,_=>(nil_perm.mp p).symm
 |x::U,[],p,_,_=>absurd p.length_eq V9
 |x::U,y::a,p,h1,h2=>by
  have M:yj x y:=by
   rcases vP (p.mem_iff.mpr (mX ..))with z|z
   .rw[z];exact ym _
   simp_all
  have O:yj y x:=by
   rcases vP (p.mem_iff.mp (mX ..))with z|z
   .rw[z];exact ym _
   simp_all
  have e:=G8 M O;subst e;rw[qh U a (List.Perm.cons_inv p) (pairwise_cons.mp h1).2 (pairwise_cons.mp h2).2]
theorem tL (p:M.Perm l)(h:sortedS M=true):M=kI l:=qh _ _ (p.trans (dm l).symm) (yk _ h) (qg l)
section
variable {X:Cx}
noncomputable def yn {prog:Program}{w:World}{κ:Type}[DecidableEq κ](kd:PySem.KeyKind prog w κ)(kf:Value->κ)(S:Addr)(M:List κ):HO:=.ext λh=>gY kd kf h S M
theorem tM (I:Inv X af σ H s)(k:∀b u,s.heap.get? b=some u->s1.heap.get? b=some u)(ho:s1.os=s.os)(O:s1.gens=s.gens):Inv X af σ H s1:=by
 have U:=I.step (d':=s1.drawn) (t':=s1.toks) (ch:=[]) (λ_ z=>nomatch z) (λb o _ _ _ e _=>k b o e) (λb o _ _ _ e _=>⟨o.slots,k b o e⟩) (λ_ _ _ _ n=>n)
  (λb o _ e=>⟨o,k b o e⟩) (λ_ _ e=>e) (λ_ _ _ e=>e) (λ_ _ e=>e) (λm hm=>?_) (I.hok.kept k) I.bare
 .obtain⟨h1,g1,d1,a,c⟩:=s1;simp_all
 .obtain⟨o,es,M,ho,r⟩:=hm;exact⟨o,es,M,k _ o ho,r⟩
variable {κ:Type}[DecidableEq κ] {kd:PySem.KeyKind X.prog X.w κ}{kf:Value->κ}{mk:κ->Tok->Value}{sf:List κ->List κ}{mv:κ->V}
def G9 (mk:κ->Tok->Value)(its:LU)(ss:List κ):Prop:=its.length=ss.length/\∀(i:Nat)(v:Value),its[i]? = some v->∃x t,v=mk x t/\ss[i]? = some x
theorem ot (a:KOf kd kf mk)(hc:X.calm=true):bH X (.type "set") (λxs H Q=>∃p ys ss,xs=[.ref p]/\dW X.K H p ys/\(∀its,aF ys its->G9 mk its ss)/\ss.length<4000/\∀S,H S=none->Q (.ref S) (upd H S (yn kd kf S (dU ss)))):=by
 intro af s σ H xs us Q I r h;obtain⟨p,ys,ss,rfl,hq,hs,f,q⟩:=h;obtain⟨u,rfl,c⟩:=fM r;cases c
 obtain⟨its,d,pl,hz⟩:=I.list hq;obtain⟨M,O⟩:=hs _ d;refine sC a (I.ok.hd hc) pl.isList (by simpa using O) (by simp[M]) (by grind[scanBound]) λh' tk U hk=>?_;refine⟨.ref _,_,I.laid (λb u e=>hk b u (vX e) e) (vT _) ?_,rr,q _ (I.hok.fresh (vT _))⟩;refine⟨U,?_,λh1 h2 z k=>z.at k⟩;obtain⟨o,_,_,_,ho,_⟩:=U;exact⟨o,ho⟩
theorem pi (b:KOf kd kf mk)(so:yi X.prog X.w kf mk λM=>aF ((sf M).map mv))(sl:∀M,(sf M).length=M.length)(hc:X.calm=true):bH X (.builtin "sorted") (λxs H Q=>∃S M,xs=[.ref S]/\H S=some (yn kd kf S M)/\M.length<64/\∀l,H l=none->Q (.ref l) (upd H l (.lst ((sf M).map mv)))):=by
 intro af s σ H xs us Q I r h;obtain⟨S,M,rfl,c,O,q⟩:=h;obtain⟨u,rfl,d⟩:=fM r;cases d
 refine Ay b so (I.ok.hd hc) (I.hok S _ c).1 O λs1 h' a out n k1 ho e k2 hp he hv=>?_;have U:=tM I k1 ho e;refine⟨.ref a,_,U.laid k2 hp (show bc _ _ _ h' _ (.lst _)from ⟨?_,out.toList,n,hv,he⟩),rr,q _ (U.hok.fresh hp)⟩;rw[vH,sl,sizeLine_eq];lia
end
theorem Zn {prog:Program}{w:World}:KOf (PySem.strKind prog w) strOf .str:=⟨strKind_is _ w,λh=>Value.isStrOf_shape h,λ_ _=>rr,λ_ _=>rr⟩
theorem mU:∀ {its:LU}{zs:LS},StrsAre its zs->aF (zs.map V.str) its
 |_,_,.nil=>.nil
 |_,_,.cons x t r=>.cons ⟨t,rr⟩ (mU r)
theorem soS {prog:Program}{w:World}:yi prog w strOf .str λa=>aF ((kI a).map V.str):=λh1 h2 h3 ho h=>by
 have M:=strsAre_map _ h1;refine list_sort_treeK strKind_oneLt ho M.keysOf (λO U ag e=>keyKind_strs (by rw[<-e];exact M)) h3 λf b c=>?_;obtain⟨d,b1,b2,b3⟩:=sorted_out_str M b c;have e:=tL (b2.trans h2) b3;subst e;exact h _ (mU b1)
theorem DU (M:LS):(kI M).length=M.length:=(dm M).length_eq
theorem StrsAre.keys (h:StrsAre its ss):G9 .str its ss:=⟨by rw[<-h.strs,vH],StrsAre.at h⟩
@[simp] def lP:D->OB
 |.lst ds=>(eQ ds).bind λss=>if ss.length<64 then some (.lst ((kI (dU ss)).map .str),true)else none
 |_=>none
@[simp] def we:D->OB
 |.lst ds=>(eQ ds).bind λss=>if ss.length<4000 then some (.int ((dU ss).length:Nat),false)else none
 |_=>none
theorem qi:bootBuiltins "sorted" = some (.builtin "sorted"):=H9
theorem NV:bootBuiltins "set" = some (.type "set"):=H9
theorem qj {K:Frag}{N:Hp}:∀(zs:LS),IsL K N (zs.map V.str) (zs.map D.str)
 |[]=>.nil
 |z::zs=>.cons (.str z) (qj zs)
@[simp] def GA {κ:Type}[DecidableEq κ](M:LD->Option (List κ))(O:List κ->List κ)(U:κ->D):D->OB
 |.lst ds=>(M ds).bind λss=>if ss.length<64 then some (.lst ((O (dU ss)).map U),true)else none
 |_=>none
section
variable {X:Cx}{e:Expr}{pos pos2 p p2:Pos}{κ:Type}[DecidableEq κ] {kd:PySem.KeyKind X.prog X.w κ}{kf:Value->κ}{mk:κ->Tok->Value}{sf:List κ->List κ}{mv:κ->V}{md:κ->D}{ef:LD->Option (List κ)}
theorem yo (g:KOf kd kf mk)(so:yi X.prog X.w kf mk λU=>aF ((sf U).map mv))(sl:∀U,(sf U).length=U.length)(im:∀ {N:Hp}(zs:List κ),IsL X.K N (zs.map mv) (zs.map md))(ka:∀ {B ys ds its ss},aF ys its->IsL X.K B ys ds->ef ds=some ss->G9 mk its ss)
  (hc:X.calm=true) (m1:X.mg "sorted" = none) (m2:X.mg "set" = none) (he:JE X e f) (g1:Gl X "sorted":=by rfl) (i:Gl X "set":=by rfl)
  (h1:starEach [e] X.env=(false,eval e X.env)::starEach [] X.env:=by rfl):JE X (.Call (.Name "sorted" p) [.Call (.Name "set" p2) [e] [] pos2] [] pos) (f1 (GA ef sf md) f):=by
 refine PE.to (pL (pi g so sl hc) g1 m1 qi (cF (mO (ot g hc) i m2 NV (cF he dX h1) (he:=h1)) dX)) λσ H Q q=>?_;obtain⟨B,ρ,d',bb,j,r,M,q⟩:=q;obtain⟨b,ex,M⟩:=oX M;refine⟨B,ρ,b.1,b.2,j,r,ex,λv u N1 a i1 x=>?_⟩;obtain⟨xd,y⟩:=b;cases i1<;>try (simp[GA]at M;done)
 rename_i z vs ds h hl;obtain⟨ss,k,M⟩:=oX M;split at M
 .rename_i m;cases M
  refine⟨_,_,ss,rr,a.nh.seq h,λits n=>ka n hl k,by omega,λS s=>⟨S,_,rr,aq,lt_of_le_of_lt (lN ss) m,λl O=>?_⟩⟩;have c:=Ext.laid (o:=yn kd kf S (dU ss)) a.nh s;have t:=Ext.laid (o:=.lst ((sf (dU ss)).map mv)) c.nh O;have d:H l=none:=((a.trans c).hh).free O;exact q _ _ _ ((a.trans c).trans t) (.lst (dW.of aq) (im _)) λ_=>⟨_,_,_,rr,rr,d,aq,im _⟩
 simp_all
theorem A0 (hc:X.calm=true)(m1:X.mg "sorted" = none)(m2:X.mg "set" = none)(he:JE X e f)(g1:Gl X "sorted")(M:Gl X "set")
  (h1:starEach [e] X.env=(false,eval e X.env)::starEach [] X.env):JE X (.Call (.Name "sorted" p) [.Call (.Name "set" p2) [e] [] pos2] [] pos) (f1 lP f):=by
 exact yo Zn soS DU qj (λO hl U=>StrsAre.keys (fR O hl U)) hc m1 m2 he g1 M h1
end
end DL
namespace DL
open PySem PySem.Spec PySem.W PyProof.Rows
inductive Run (n:Nat)(lt:Nat->Nat->Bool){α:Type}:KasT α->α->Prop where
 |ret (a:α):Run n lt (.ret a) a
 |ask {i j:Nat}{k:Bool->KasT α}{a:α}(hi:i<n) (hj:j<n) (h:Run n lt (k (lt i j)) a):Run n lt (.ask i j k) a
theorem Run.bind {n:Nat}{lt:Nat->Nat->Bool}{α M:Type}{t:KasT α}{f:α->KasT M}{a:α}{b:M}(h:Run n lt t a)(k:Run n lt (f a) b):Run n lt (t.bind f) b:=by
 induction h with
 |ret a=>exact k
 |ask hi hj _ O=>exact .ask hi hj (O k)
theorem Run.wp {n:Nat}{lt:Nat->Nat->Bool}{α:Type}{M:Nat->Nat->(Bool->Shared->Prop)->Shared->Prop}{Q:α->Shared->Prop}{t:KasT α}{a:α}(J:Shared->Prop)
  (hc:∀i j C s,i<n->j<n->J s->(∀s',J s'->C (lt i j) s')->M i j C s) (h:Run n lt t a):∀ {s:Shared},J s->(∀s',J s'->Q a s')->t.kasWp M Q s:=by
 induction h with
 |ret a=>intro s O U;exact U s O
 |ask hi hj _ c=>intro s O U;exact hc _ _ _ _ hi hj O λs' b=>c b U
section
variable {n:Nat}{rk:Nat->Int}
noncomputable abbrev qk (rk:Nat->Int)(i j:Nat):Bool:=decide (rk i<rk j)
noncomputable def bK (rk:Nat->Int)(p:Array Nat)(k:Nat):Int:=rk (p.getD k 0)
structure mL (n:Nat)(p:Array Nat):Prop where
 size:p.size=n
 perm:p.toList.Perm (List.range n)
theorem mL.lt {p:Array Nat}(h:mL n p){k:Nat}(hk:k<n):p.getD k 0<n:=by
 have M:k<p.size:=by rw[h.size];exact hk
 have:p.getD k 0=p[k]:=by simp_all
 rw[this];exact mem_range.mp (h.perm.mem_iff.mp V9)
theorem mL.rev {p:Array Nat}(h:mL n p)(i j:Nat):mL n (kas_rev p i j):=
 ⟨(mirror_size _ _ _ _).trans h.size,(Array.perm_iff_toList_perm.mp (mirror_perm p i j _)).trans h.perm⟩
theorem mL.bub {p:Array Nat}(h:mL n p)(k d:Nat):mL n (bubble p k d):=
 ⟨(bubble_size _ _ _).trans h.size,(Array.perm_iff_toList_perm.mp (bubble_perm p k d)).trans h.perm⟩
theorem wg {p:Array Nat}{i j:Nat}(hj:j<=p.size)(k:Nat):bK rk (kas_rev p i j) k=if i<=k/\k<j then bK rk p (i+j - 1 - k)else bK rk p k:=by
 unfold bK kas_rev;rw[Array.getD_eq_getD_getElem?,getElem?_mirror_all hj];split<;>simp_all
theorem GB {p:Array Nat}{M d:Nat}(hs:M<p.size)(hd:d<=M)(k:Nat):bK rk (bubble p M d) k=if k=M - d then bK rk p M else if M - d<k/\k<=M then bK rk p (k - 1)else bK rk p k:=by
 unfold bK;simp [Array.getD_eq_getD_getElem?];rw[getElem?_bubble hs d hd];repeat' split
 all_goals rfl
def Up (rk:Nat->Int)(p:Array Nat)(m:Nat):Prop:=∀i j,i<=j->j<m->bK rk p i<=bK rk p j
def wj (rk:Nat->Int)(p:Array Nat)(m:Nat):Prop:=∀i j,i<=j->j<m->bK rk p j<=bK rk p i
theorem Qw (p:Array Nat):Up rk p 1:=λi j h1 h2=>by
 simp_all
theorem wk {p:Array Nat}(h:mL n p){r:Nat}(hr:r<=n):∀(f m:Nat),r - m=f->1<=m->m<=r->Up rk p m->∃M,Run n (qk rk) (kas_asc p f m) M/\m<=M/\M<=r/\Up rk p M/\(M<r->bK rk p M<bK rk p (M - 1))
 |0,m,hf,h1,hm,hu=>⟨m,.ret m,vT _,hm,hu,λz=>by lia⟩
 |f+1,m,hf,h1,hm,hu=>by
  have a:=h.lt (k:=m) N9;have b:=h.lt (k:=m - 1) N9;by_cases hc:bK rk p m<bK rk p (m - 1)
  .refine⟨m,.ask a b ?_,vT _,hm,hu,λ_=>hc⟩;have:qk rk _ _=true:=xw hc;rw[this];exact .ret m
  .have O:Up rk p (m+1):=λi j U hj=>by
    by_cases e:j=m
    .subst e;by_cases e2:i=j
     .subst e2;exact Int.le_refl _
     .have:=hu i (j - 1) N9 N9;lia
    .exact hu i j U N9
   obtain⟨M,c,q2,d,g,l⟩:=wk h hr f _ N9 N9 N9 O;refine⟨M,.ask a b ?_,N9,d,g,l⟩;have:qk rk _ _=false:=ES hc;rw[this];exact c
def Mc (rk:Nat->Int)(p:Array Nat)(m q:Nat):Prop:=q+1<=m/\∀k,m - (q+1)<=k->k<m->bK rk p k=bK rk p (m - 1)
theorem yp {p:Array Nat}{m q:Nat}(hs:m<=p.size)(hf:Mc rk p m q)(k:Nat):bK rk (kas_rev p (m - (q+1)) m) k=bK rk p k:=by
 rw[wg hs];split
 .rename_i hk;rw[hf.2 k hk.1 hk.2,hf.2 _ N9 N9]
 .rfl
theorem BM {p M:Array Nat}{m:Nat}(e:∀k,bK rk M k=bK rk p k)(h:wj rk p m):wj rk M m:=λi j h1 h2=>by rw[e,e];exact h i j h1 h2
theorem qm (p:Array Nat){m:Nat}(h:1<=m):Mc rk p m 0:=⟨h,λk h1 h2=>by
 grind⟩
theorem lQ {r:Nat}(hr:r<=n):∀(f:Nat)(p:Array Nat)(m q:Nat),mL n p->r - m=f->1<=m->m<=r->wj rk p m->Mc rk p m q->∃M O a,Run n (qk rk) (kas_desc f p m q) (M,O,a)/\mL n M/\m<=O/\O<=r/\wj rk M O/\Mc rk M O a
 |0,p,m,q,h,hf,h1,hm,hd,hq=>⟨p,m,q,.ret _,h,vT _,hm,hd,hq⟩
 |f+1,p,m,q,h,hf,h1,hm,hd,hq=>by
  have b:=h.lt (k:=m) N9;have c:=h.lt (k:=m - 1) N9;have step:∀M:Array Nat,(∀k,bK rk M k=bK rk p k)->bK rk p m<=bK rk p (m - 1)->wj rk M (m+1):=λM e y i j t hj=>by
   rw[e,e];by_cases z:j=m
   .subst z;by_cases x:i=j
    .subst x;exact Int.le_refl _
    .have:=hd i (j - 1) N9 N9;lia
   .exact hd i j t N9
  by_cases hc:bK rk p m<bK rk p (m - 1)
  .have U:qk rk (p.getD m 0) (p.getD (m - 1) 0)=true:=xw hc;by_cases d:q > 0
   .have e:=yp (p:=p) (by rw[h.size];lia) hq;obtain⟨M,O,a,g1,g,v,l,o,s⟩:=lQ hr f (kas_rev p (m - (q+1)) m) (m+1) 0 (h.rev _ _) N9 N9 N9 (step _ e N9) (qm _ N9);refine⟨M,O,a,.ask b c ?_,g,N9,l,o,s⟩;rw[U,if_pos rr,if_pos d];exact g1
   .obtain⟨M,O,a,g1,g,v,l,o,s⟩:=lQ hr f p (m+1) 0 h N9 N9 N9 (step _ (λ_=>rr) N9) (qm _ N9);refine⟨M,O,a,.ask b c ?_,g,N9,l,o,s⟩;rw[U,if_pos rr,if_neg d];exact g1
  .have U:qk rk (p.getD m 0) (p.getD (m - 1) 0)=false:=ES hc;by_cases w:bK rk p (m - 1)<bK rk p m
   .have u:qk rk (p.getD (m - 1) 0) (p.getD m 0)=true:=xw w;refine⟨p,m,q,.ask b c ?_,h,vT _,hm,hd,hq⟩;rw[U,if_neg uW];refine .ask c b ?_;rw[u,if_pos rr];exact .ret _
   .have u:qk rk (p.getD (m - 1) 0) (p.getD m 0)=false:=ES w;have he:bK rk p m=bK rk p (m - 1):=N9
    obtain⟨M,O,a,g1,g,v,l,o,s⟩:=lQ hr f p (m+1) (q+1) h N9 N9 N9 (step _ (λ_=>rr) N9) ⟨by have:=hq.1;lia,λk k1 k2=>by
     rw[Nat.add_sub_cancel];by_cases z:k=m
     .rw[z]
     .rw[hq.2 k N9 N9,he]⟩
    refine⟨M,O,a,.ask b c ?_,g,N9,l,o,s⟩;rw[U,if_neg uW];refine .ask c b ?_;rw[u,if_neg uW];exact g1
theorem yq {r:Nat}(hr:r<=n){p:Array Nat}(h:mL n p){m:Nat}(h1:1<=m)(hm:m<=r)(hd:wj rk p m):∃M O,Run n (qk rk) (kas_tail3 m r p) (M,O)/\mL n O/\1<=M/\M<=r/\Up rk O M:=by
 have hu:Up rk (kas_rev p 0 m) m:=λi j U hj=>by
  rw[wg (by rw[h.size];lia),wg (by rw[h.size];lia),if_pos N9,if_pos N9];exact hd _ _ N9 N9
 obtain⟨M,a,q2,b,c,_⟩:=wk (h.rev 0 m) hr _ m rr h1 hm hu;exact⟨M,_,a.bind (.ret _),h.rev 0 m,N9,b,c⟩
theorem yr {r:Nat}(hr:r<=n){p:Array Nat}(h:mL n p){m:Nat}(hm:m+1<=r)(hd:wj rk p (m+1)):∃M O,Run n (qk rk) (kas_descPart m r p) (M,O)/\mL n O/\1<=M/\M<=r/\Up rk O M:=by
 obtain⟨e,m1,c,g1,U,f,a,b,d⟩:=lQ hr _ p _ 0 h rr N9 hm hd (qm _ N9);by_cases hq:c > 0
 .obtain⟨M,O,k1,k2,k3,k4,k5⟩:=yq hr (U.rev _ m1) N9 a (BM (yp (by rw[U.size];lia) d) b);exact⟨M,O,g1.bind (by simp_all),k2,k3,k4,k5⟩
 .obtain⟨M,O,k1,k2,k3,k4,k5⟩:=yq hr U N9 a b;exact⟨M,O,g1.bind (by simp_all),k2,k3,k4,k5⟩
theorem DV {p:Array Nat}(h:mL n p)(hn:1<=n):∃M U,Run n (qk rk) (kas_count n p) (M,U)/\mL n U/\1<=M/\M<=n/\Up rk U M:=by
 obtain⟨m,b,q2,f,c,l⟩:=wk h (vT n) (n - 1) 1 rr (vT 1) hn (Qw (rk:=rk) p);by_cases e:m=n
 .exact⟨m,p,b.bind (by rw[if_pos (by simp[e])];exact .ret _),h,q2,f,c⟩
 .have q:=l N9;have g:¬(m == n)=true:=by simp[e]
  by_cases a:m > 1
  .by_cases hc:bK rk p 0<bK rk p (m - 1)
   .refine⟨m,p,b.bind ?_,h,q2,f,c⟩;rw[if_neg g,if_pos a];refine .ask (h.lt N9) (h.lt N9) ?_;have:qk rk (p.getD 0 0) _=true:=xw hc;rw[this,if_pos rr];exact .ret _
   .have O:∀k,k<m->bK rk p k=bK rk p 0:=λk hk=>by
     have r:=c 0 k N9 hk;have s:=c k (m - 1) N9 N9;simp_all<;>lia
    have er:∀k,bK rk (kas_rev p 0 m) k=bK rk p k:=λk=>by
     rw[wg (by rw[h.size];lia)];split
     .rename_i z;rw[O _ N9,O k z.2]
     .rfl
    have hd:wj rk p (m+1):=λi j d hj=>by
     grind
    obtain⟨M,U,k1,k2,k3,k4,k5⟩:=yr (vT n) (h.rev 0 m) (m:=m) N9 (BM er hd);refine⟨M,U,b.bind ?_,k2,k3,k4,k5⟩;rw[if_neg g,if_pos a];refine .ask (h.lt N9) (h.lt N9) ?_;have:qk rk (p.getD 0 0) _=false:=ES hc;rw[this];exact k1
  .have o:m=1:=N9
   subst o;have hd:wj rk p 2:=λi j d hj=>by
    grind
   obtain⟨M,U,k1,k2,k3,k4,k5⟩:=yr (vT n) h (m:=1) N9 hd;refine⟨M,U,b.bind ?_,k2,k3,k4,k5⟩;simp_all
theorem mV {p:Array Nat}(h:mL n p){k:Nat}(hk:k<n)(hu:Up rk p k):∀(f l r:Nat),r - l<=f->l<=r->r<=k->(∀i,i<l->bK rk p i<=bK rk p k)->(∀i,r<=i->i<k->bK rk p k<bK rk p i) ->
  ∃M,Run n (qk rk) (kas_place p k f l r) M/\M<=k/\(∀i,i<M->bK rk p i<=bK rk p k)/\(∀i,M<=i->i<k->bK rk p k<bK rk p i)
 |0,l,r,hf,hl,hr,h1,h2=>⟨l,.ret l,N9,h1,λi a b=>h2 i N9 b⟩
 |f+1,l,r,hf,hl,hr,h1,h2=>by
  by_cases O:l ≥ r
  .refine⟨l,?_,N9,h1,λi a b=>h2 i N9 b⟩;unfold kas_place;rw[if_pos O];exact .ret l
  .by_cases hc:bK rk p k<bK rk p ((l+r) / 2)
   .obtain⟨M,U,q2,c,d⟩:=mV h hk hu f l ((l+r) / 2) N9 N9 N9 h1 λi a b=>by
     have:=hu _ i a b;lia
    refine⟨M,?_,q2,c,d⟩;unfold kas_place;rw[if_neg O];refine .ask (h.lt N9) (h.lt N9) ?_;have:qk rk _ _=true:=xw hc;rw[this];exact U
   .obtain⟨M,U,q2,c,d⟩:=mV h hk hu f ((l+r) / 2+1) r N9 N9 hr (λi a=>by
     have:=hu i ((l+r) / 2) N9 N9;lia) h2
    refine⟨M,?_,q2,c,d⟩;unfold kas_place;rw[if_neg O];refine .ask (h.lt N9) (h.lt N9) ?_;have:qk rk _ _=false:=ES hc;rw[this];exact U
theorem BN:∀(f:Nat)(p:Array Nat)(k:Nat),mL n p->n - k=f->k<=n->Up rk p k->∃M,Run n (qk rk) (kas_bin f p k) M/\mL n M/\Up rk M n
 |0,p,k,h,hf,hk,hu=>⟨p,.ret p,h,(show k=n by lia) ▸ hu⟩
 |f+1,p,k,h,hf,hk,hu=>by
  have O:k<n:=N9
  obtain⟨l,g,q2,m,q⟩:=mV h O hu k 0 k N9 N9 (vT _) (λi z=>by lia) (λi a b=>by lia);have hsz:k<p.size:=by rw[h.size];exact O
  have U:Up rk (bubble p k (k - l)) (k+1):=λi j c hj=>by
   rw[GB hsz N9,GB hsz N9];have e:k - (k - l)=l:=N9
   rw[e];by_cases i1:i=l
   .grind
   .rw[if_neg i1];by_cases i2:l<i/\i<=k
    .rw[if_pos i2,if_neg N9,if_pos N9];exact hu _ _ N9 N9
    .rw[if_neg i2];by_cases d:j=l
     .rw[if_pos d];exact m i N9
     .rw[if_neg d];by_cases o:l<j/\j<=k
      .grind
      .rw[if_neg o];exact hu _ _ c N9
  obtain⟨M,k1,k2,k3⟩:=BN f _ (k+1) (h.bub _ _) N9 N9 U;exact⟨M,g.bind k1,k2,k3⟩
theorem yt (hn:1<=n):∃p,Run n (qk rk) (kas_sort n) p/\mL n p/\Up rk p n:=by
 have h0:mL n (List.toArray (List.range n)):=⟨V9,V9⟩;obtain⟨m,p,O,q2,b,c,U⟩:=DV h0 hn;by_cases e:m<n
 .have M:max m 1=m:=N9
  obtain⟨a,k1,k2,k3⟩:=BN _ p (max m 1) q2 rr N9 (by rw[M];exact U);exact⟨a,O.bind (by simp_all),k2,k3⟩
 .have:m=n:=N9
  subst this;exact⟨p,O.bind (by rw[if_neg e];exact .ret _),q2,U⟩
end
theorem DW {a b c:LI}(h:a<b)(k:b<c):a<c:=lt_trans h k
theorem DX {a b c:LI}(h:¬b<a)(k:¬c<b):¬c<a:=by grind
theorem GC {a b:LI}(h:¬b<a)(k:¬a<b):a=b:=by grind
section
variable {α:Type}(f:α->LI)
def GD (a b:α):Prop:=¬f b<f a
noncomputable def mW (x:α):List α->List α
 |[]=>[x]
 |y::r=>if f y<f x then y::mW x r else x::y::r
noncomputable def cL (l:List α):List α:=l.foldr (mW f) []
theorem nc (x:α):∀l,(mW f x l).Perm (x::l)
 |[]=>List.Perm.refl _
 |y::r=>by
  unfold mW;split
  .exact((nc x r).cons y).trans (List.Perm.swap x y r)
  rfl
theorem aC:∀l,(cL f l).Perm l
 |[]=>List.Perm.refl _
 |x::l=>(nc f x _).trans ((aC l).cons x)
theorem tN (x:α):∀l,l.Pairwise (GD f)->(mW f x l).Pairwise (GD f)
 |[],_=>by simp[mW]
 |y::r,h=>by
  obtain⟨h1,h2⟩:=pairwise_cons.mp h;unfold mW;split
  .rename_i hl;refine pairwise_cons.mpr ⟨λz hz=>?_,tN x r h2⟩;rcases vP ((nc f x r).mem_iff.mp hz)with rfl|hz
   .exact λk=>lt_irrefl _ (DW hl k)
   simp_all
  .rename_i hl;refine pairwise_cons.mpr ⟨λz hz=>?_,h⟩;rcases vP hz with rfl|hz
   .exact hl
   .exact DX hl (h1 z hz)
theorem dn:∀l,(cL f l).Pairwise (GD f)
 |[]=>List.Pairwise.nil
 |x::l=>tN f x _ (dn l)
theorem ng:∀(l1 l2:List α),(∀x∈l1,∀y∈l1,f x=f y->x=y)->l1.Perm l2->l1.Pairwise (GD f)->l2.Pairwise (GD f)->l1=l2
 |[],l2,_,p,_,_=>(nil_perm.mp p).symm
 |x::U,[],_,p,_,_=>absurd p.length_eq V9
 |x::U,y::c,hi,p,h1,h2=>by
  have hy:=p.mem_iff.mpr (mX ..);have M:GD f x y:=by
   rcases vP hy with z|z
   .rw[z];exact lt_irrefl _
   simp_all
  have O:GD f y x:=by
   rcases vP (p.mem_iff.mp (mX ..))with z|z
   .rw[z];exact lt_irrefl _
   simp_all
  have e:=hi x (mX ..) y hy (GC M O);subst e;rw[ng U c (λa ha b hb=>hi a (mZ _ ha) b (mZ _ hb)) (List.Perm.cons_inv p) (pairwise_cons.mp h1).2 (pairwise_cons.mp h2).2]
theorem gZ (hi:∀x∈l,∀y∈l,f x=f y->x=y)(p:M.Perm l)(h:M.Pairwise (GD f)):M=cL f l:=
 ng f _ _ (λx hx y hy=>hi x (p.mem_iff.mp hx) y (p.mem_iff.mp hy)) (p.trans (aC f l).symm) h (dn f l)
end
theorem lf {α:Type}{p q:α->Bool}(h:∀x,p x=true->q x=true)(l:List α):(l.filter p).length<=(l.filter q).length:=by
 rw[<-List.countP_eq_length_filter,<-List.countP_eq_length_filter];exact List.countP_mono_left λx _=>h x
noncomputable def qo (cs:List LI)(c:LI):Int:=((cs.filter λx=>decide (x<c)).length:Nat)
theorem Md {cs:List LI}{a b:LI}(h:¬b<a):qo cs a<=qo cs b:=by
 refine Int.ofNat_le.mpr (lf (λx hx=>?_) cs);grind
theorem wl {cs:List LI}{a b:LI}(ha:a∈cs)(h:a<b):qo cs a<qo cs b:=by
 obtain⟨s,t,rfl⟩:=List.append_of_mem ha;have tr:∀x:LI,decide (x<a)=true->decide (x<b)=true:=λx hx=>decide_eq_true (List.lt_trans (of_decide_eq_true hx) h)
 have k1:=lf tr s;have k2:=lf tr t;apply Int.ofNat_lt.mpr;rw[List.filter_append,List.filter_append,List.filter_cons_of_neg (by simp[List.lt_irrefl]),List.filter_cons_of_pos (by simpa using h),List.length_append,List.length_append,List.length_cons];clear ha tr h
 lia
theorem yu (ha:a∈cs):decide (qo cs a<qo cs b)=decide (a<b):=by
 by_cases h:a<b
 .simp_all[wl]
 simp_all[ES,Md]
set_option genInjectivity true in
inductive At where
 |i (n:Int)
 |s (z:Str)
noncomputable def Qx:At->LI
 |.i n=>[n]
 |.s z=>z.cps.toList.map (λ(c:Nat)=>(c:Int)+1)++[0]
def bV (xs:List At):LI:=xs.flatMap Qx
noncomputable def aR:List At->List At->Option Bool
 |[],ys=>some (!ys.isEmpty)
 |_::_,[]=>some false
 |.i a::xs,.i b::ys=>if a=b then aR xs ys else some (decide (a<b))
 |.s a::xs,.s b::ys=>if a=b then aR xs ys else some (decide (a.cps.toList<b.cps.toList))
 |_::_,_::_=>none
theorem wm:∀(a b:LN)(r M:LI),(a.map (λ(c:Nat)=>(c:Int)+1)++0::r)<(b.map (λ(c:Nat)=>(c:Int)+1)++0::M)↔a<b\/(a=b/\r<M)
 |[],[],r,M=>by simp
 |[],y::b,r,M=>by simp[cons_lt_cons_iff]
 |x::a,[],r,M=>by simp[cons_lt_cons_iff];lia
 |x::a,y::b,r,M=>by
  rw[uX,uX,cons_append,cons_append,cons_lt_cons_iff,wm a b r M,cons_lt_cons_iff,Int.add_lt_add_iff_right,Int.ofNat_lt,Int.add_left_inj,Int.ofNat_inj,List.cons.injEq,and_or_left,or_assoc,and_assoc]
theorem nj (x:At)(xs:List At):bV (x::xs)=Qx x++bV xs:=I9
theorem Qy (x:At):Qx x≠[]:=by cases x<;>simp[Qx]
theorem BO {a b:Str}:a.cps.toList=b.cps.toList↔a=b:=by
 constructor
 .obtain⟨a⟩:=a;simp_all
 lia
theorem wn:∀(xs ys:List At)(b:Bool),aR xs ys=some b->b=decide (bV xs<bV ys)
 |[],[],b,h=>by simp_all[aR]
 |[],y::ys,b,h=>by
  simp[aR]at h;subst h;rw[nj];cases e:Qx y with
  |nil=>exact absurd e (Qy y)
  |cons c cs=>simp[bV]
 |x::xs,[],b,h=>by simp_all[aR,bV]
 |.i a::xs,.i c::ys,b,h=>by
  rw[aR]at h;show b=decide (a::bV xs<c::bV ys);split at h
  .rename_i e;subst e;rw[wn xs ys b h];simp
  .simp_all[cons_lt_cons_iff]
 |.s a::xs,.s c::ys,b,h=>by
  rw[aR]at h;rw[nj,nj];have M:∀(z:Str)(r:List _),Qx (.s z)++r=z.cps.toList.map (λ(c:Nat)=>(c:Int)+1)++0::r:=λz r=>by simp[Qx]
  rw[M,M];split at h
  .rename_i e;rw[wn xs ys b h];grind[wm]
  grind[wm,BO]
 |.i _::_,.s _::_,b,h=>by simp[aR]at h
 |.s _::_,.i _::_,b,h=>by simp[aR]at h
theorem A1:∀(xs ys:List At),aR xs ys=some false->aR ys xs=some false->xs=ys
 |[],[],_,_=>rr
 |[],y::ys,h,_=>by simp[aR]at h
 |x::xs,[],_,h=>by simp[aR]at h
 |.i a::xs,.i c::ys,h,k=>by
  rw[aR]at h k;by_cases e:a=c
  .subst e;rw[if_pos rr]at h k;rw[A1 xs ys h k]
  lia
 |.s a::xs,.s c::ys,h,k=>by
  rw[aR]at h k;by_cases e:a=c
  .subst e;rw[if_pos rr]at h k;rw[A1 xs ys h k]
  .rw[if_neg e]at h;rw[if_neg (Ne.symm e)]at k;simp only[Option.some.injEq,decide_eq_false_iff_not]at h k;exact absurd (BO.mp (List.le_antisymm (not_lt.mp k) (not_lt.mp h))) e
 |.i _::_,.s _::_,h,_=>by simp[aR]at h
 |.s _::_,.i _::_,h,_=>by simp[aR]at h
noncomputable def cr (ks:List (List At)):Bool:=ks.all λx=>ks.all λy=>(aR x y).isSome
theorem fD (h:cr ks=true)(hx:x∈ks)(hy:y∈ks):aR x y=some (decide (bV x<bV y)):=by
 have:=uQ (uQ h x hx) y hy;obtain⟨b,e⟩:=uT this;rw[e,wn _ _ _ e]
theorem jW (h:cr ks=true)(hx:x∈ks)(hy:y∈ks)(e:bV x=bV y):x=y:=by
 refine A1 _ _ ?_ ?_
 .grind[fD]
 grind[fD]
def zL:At->Value->Prop
 |.i n,v=>∃t,v=.int n t
 |.s z,v=>∃t,v=.str z t
def dB (h:Heap)(xs:List At)(v:Value):Prop:=∃a o its n,v=.ref a/\h.get? a=some o/\o.cls=.type "tuple"/\o.data=.seq its n/\Paired zL xs its.toList
theorem dB.keep (x:dB h xs v)(k:∀a o,o.cls=.type "tuple"->h.get? a=some o->h'.get? a=some o):dB h' xs v:=by
 obtain⟨a,o,its,n,e,ho,hc,r⟩:=x;exact⟨a,o,its,n,e,k a o hc ho,hc,r⟩
noncomputable def c7 (ks:List (List At)):Bool:=ks.all (λx=>match x with|.i _::_=>true|_=>false) || ks.all (λx=>match x with|.s _::_=>true|_=>false)
section
variable {prog:Program}{w:World}{A:Around}{E:QV}{s:Shared}
theorem GF (xs ys:List At)(its M:LU)(i:Nat)(U:Paired zL xs its)(d:Paired zL ys M)(h:aR xs ys=some b)(hf:dv=decide (xs.length<ys.length))(q:Q b s):KatLex prog w A true dv Q (its.zip M) i s:=by
 induction U generalizing ys M i with
 |nil=>
  refine kat_nil ?_;cases ys with
  |nil=>simp_all[aR]
  |cons y ys=>simp_all[aR]
 |@cons x v xs its U g f=>
  cases d with
  |nil=>
   simp_all[kat_nil,aR]
  |@cons y u ys M d O=>
   cases x with
   |i a=>
    cases y with
    |s _=>simp[aR]at h
    |i c=>
     obtain⟨t,rfl⟩:=U;obtain⟨u,rfl⟩:=d;refine kat_cons (wpAny_eqBool_int ?_);rw[aR]at h;by_cases e:a=c
     .rw[if_pos e]at h;rw[show(a == c)=true by simp[e]];exact kat_yes (f ys M (i+1) O h (by rw[hf];simp))
     .rw[if_neg e]at h;cases h
      rw[show(a == c)=false by simp[e]];refine kat_no ?_;cases hb:(true && i == 0) with
      |true=>exact oneLt_int q
      |false=>exact kat_one _ _ (PyProof.Rows.lt_int q)
   |s a=>
    cases y with
    |i _=>simp[aR]at h
    |s c=>
     obtain⟨t,rfl⟩:=U;obtain⟨u,rfl⟩:=d;refine kat_cons (wpAny_eqBool_str ?_);rw[aR]at h;by_cases e:a=c
     .rw[if_pos e]at h;rw[xw e];exact kat_yes (f ys M (i+1) O h (by rw[hf];simp))
     .rw[if_neg e]at h;cases h
      rw[ES e];refine kat_no ?_;cases hb:(true && i == 0) with
      |true=>exact oneLt_str q
      |false=>exact kat_one _ _ (PySem.P.lt_str q)
theorem dr {α U:Type}{F:α->U->Prop}:∀ {M:List α}{O:List U},Paired F M O->M.length=O.length
 |_,_,.nil=>rr
 |_,_,.cons _ t=>by simp[dr t]
theorem Qz {Q:Bool->Shared->Prop}{xs ys:List At}{x y:Value}{b:Bool}(hx:dB s.heap xs x)(hy:dB s.heap ys y)(h:aR xs ys=some b)(q:Q b s):wpAny (model prog w) A (keyLt' (tuples' true) x y) Q E s:=by
 obtain⟨a,o,its,n,rfl,ho,_,hd,r⟩:=hx;obtain⟨c,o',its',d,rfl,M,_,O,U⟩:=hy;refine kat_lt ho hd M O (GF xs ys _ _ 0 r U h ?_ q);rw[<-vF,<-vF,dr r,dr U]
theorem ou:∀ {ks:List (List At)}{vs:LU},Paired (dB h) ks vs->(∀k∈ks,k≠[])->∃fs,KatTups h vs fs/\fs.length=ks.length/\∀v∈fs,∃k r,(k::r)∈ks/\zL k v
 |_,_,.nil,_=>⟨[],trivial,rr,V9⟩
 |k::ks,_,.cons x t,M=>by
  obtain⟨fs,h1,h2,h3⟩:=ou t λz hz=>M z (mZ _ hz);obtain⟨a,o,its,n,rfl,ho,hc,hd,r⟩:=x;cases O:its.toList with
  |nil=>
   rw[O]at r;cases r
   simp_all
  |cons v vs=>
   rw[O]at r;obtain⟨p,U⟩:∃p,its[0]? = some v:=⟨(),by rw[<-Array.getElem?_toList,O];rfl⟩;cases r with
   |cons q b=>
    refine⟨v::fs,KatTups.cons ho hc hd U h1,by simp[h2],λu hu=>?_⟩;grind
theorem yv (hp:Paired (dB s.heap) ks vs)(hf:c7 ks=true)(hn:0<ks.length)(q:Q (tuples' true) s):wpAny (model prog w) A (keyKind' vs.toArray) Q E s:=by
 have M:∀k∈ks,k≠[]:=λk hk z=>by
  subst z;unfold c7 at hf;rw[Bool.or_eq_true]at hf;rcases hf with hf|hf
  .have:=uQ hf [] hk;simp at this
  .have:=uQ hf [] hk;simp at this
 obtain⟨fs,h1,h2,h3⟩:=ou hp M;unfold c7 at hf;rw[Bool.or_eq_true]at hf;rcases hf with hf|hf
 .refine kat_kind (T:=.type "int") h1 N9 (λv hv=>?_) Z9 q;obtain⟨k,r,m,z⟩:=h3 v hv;have:=uQ hf _ m;cases k with
  |i n=>obtain⟨t,rfl⟩:=z;exact .now
  |s O=>simp at this
 .refine kat_kind (T:=.type "str") h1 N9 (λv hv=>?_) Z9 q;obtain⟨k,r,m,z⟩:=h3 v hv;have:=uQ hf _ m;cases k with
  |s O=>obtain⟨t,rfl⟩:=z;exact .now
  |i n=>simp at this
end
section
variable {prog:Program}{w:World}{A:Around}{E:QV}{s:Shared}
theorem du {α U:Type}{F:α->U->Prop}(d:α)(e:U):∀ {M:List α}{O:List U},Paired F M O->∀ {i:Nat},i<M.length->F (M.getD i d) (O.getD i e)
 |_,_,.cons r t,0,_=>r
 |_,_,.cons r t,i+1,h=>by
  exact du d e t (by simpa using h)
 |_,_,.nil,i,h=>by simp at h
def zM (ks:List (List At))(i:Nat):Int:=qo (ks.map bV) (bV (ks.getD i []))
theorem BP {ks:List (List At)}{vs:LU}(hc:cr ks=true)(hp:Paired (dB s.heap) ks vs):∀(i j:Nat)(C:Bool->Shared->Prop)(s1:Shared),i<ks.length->j<ks.length->s1=s->(∀s',s'=s->C (qk (zM ks) i j) s')->kas_ask prog w A (tuples' true) vs i j C s1:=by
 intro i j C s1 hi hj e O;subst e;have M:ks.getD i []∈ks:=by simp_all
 have U:ks.getD j []∈ks:=by simp_all
 refine Qz (du [] _ hp hi) (du [] _ hp hj) (fD hc M U) ?_;have:=O s1 rr;unfold qk zM at this;rw[yu (uR ⟨_,M,rr⟩)]at this;exact this
theorem DY (ho:s.heap.get? a=some (seqObj "list" vs.toArray n))(hk:Paired (dB s.heap) ks vs)(hc:cr ks=true)(hf:c7 ks=true)(B:vs.length<64)
  (h:∀p:Array Nat,mL vs.length p->Up (zM ks) p vs.length->P (.done (.ret .none)) { s with heap:=sortedHeap s.heap a vs (List.toArray (p.toList.map λi=>vs.getD i Value.none)) }):
  wpAny (model prog w) A (Builtin.«list.sort» ⟨[.ref a],[]⟩) P E s:=by
 have ha:=vX ho;have S:ks.length=vs.length:=dr hk;obtain⟨f,l⟩:∃f,(s.heap.update a (Obj.mapSeq λ_=>#[])).get? a=some (seqObj "list" #[] f):=⟨_,get?_update_seq ho (λ_=>#[])⟩;let U:Heap:=((s.heap.update a (Obj.mapSeq λ_=>#[])).push (seqObj "tuple" vs.toArray 0)).push (seqObj "list" #[] 0);have g:∀b u,b≠a->s.heap.get? b=some u->U.get? b=some u:=λb u hb q=>
  vZ _ (vZ _ ((Heap.get?_update_ne _ _ _ _ hb).trans q))
 have c:U.get? a=some (seqObj "list" #[] f):=vZ _ (vZ _ l);have d:Paired (dB U) ks vs:=L2.Paired.mapP hk λk v x=>x.keep λb u T q=>g b u (λz=>by
  lia) q
 rw[list_sort_plain];refine wX (listItems_at ho rr (wX (listUpdate_at ho rr (wX (seqEpoch_at l rr (wX (wpAny_newTuple (wX (wpAny_newList (wpAny_holding ?_))) (by show vs.length<=sizeLine;rw[sizeLine_eq];lia))))))));dsimp only;have m:∀(st:SortSt)(p:Array Nat),arrOf st=p.map (kas_item (vs.toArray.zip vs.toArray))->failedOf st=none->mL vs.length p->Up (zM ks) p vs.length ->
   wpAny (model prog w) A (do
    let M:=(<-seqEpoch a) != f
    Builtin.List.listUpdate (.ref a) λ_=>(arrOf st).map (·.2)
    if let some e:=failedOf st then rule "list.sort.comparison-raised";throw e
    if M then rule "list.sort.modified";raiseError "ValueError" "list modified during sort"
    ret .none) P E { s with heap:=U }:=λst p D F ap H=>by
  have o:=kat_snds rr D;refine wX (seqEpoch_at c rr ?_);refine wX (listUpdate_at c rr ?_ (hsz2:=by rw[o];simp only[vG,vH,vF,ap.size,sizeLine_eq];lia));rw[F];simp only[bne_self_eq_false,uU,if_false];rw[o];exact wY (h p ap H)
 by_cases h2:vs.toArray.size<2
 .rw[if_pos h2,if_pos h2];refine wX (wY ?_);rw[StateT.run_pure];refine wX (wY ?_);have V:vs.length<2:=by simpa using h2
  refine m _ (List.toArray (List.range vs.length)) ?_ rr ⟨V9,V9⟩ ?_
  .grind[kas_range]
  .intro i j I hj;have:i=j:=N9
   subst this;exact Int.le_refl _
 .rw[if_neg h2,if_neg h2];have J:2<=vs.length:=by simp at h2;lia
  refine wX (yv (s:={ s with heap:=U }) d hf N9 ?_);obtain⟨p,K,L,N⟩:=yt (n:=vs.length) (rk:=zM ks) N9;refine wX (wpAny_mono (kat_run (E:=E) (ks:=vs) (vs:=vs) (κ:=tuples' true) (s:={ s with heap:=U }) (Q:=λO s'=>s'={ s with heap:=U }/\arrOf O=p.map (kas_item (vs.toArray.zip vs.toArray))/\failedOf O=none)
   (G:=λt s'=>t=p/\s'={ s with heap:=U }) rr J B (λt O s' _ e2 y W=>by
    simp_all) (Run.wp (λs'=>s'={ s with heap:=U }) (λi j C s1 hi hj e R=>BP (s:={ s with heap:=U }) hc d i j C s1 N9 N9 e R) K rr λs' e=>⟨rr,e⟩)) (λr s' hr=>?_) λ_ _ z=>z)
  obtain⟨⟨⟩,O⟩:=r;obtain⟨rfl,e2,y⟩:=hr;exact m O p e2 y L N
theorem yw (hl:s.heap.IsList l vs.toArray)(hk:Paired (dB s.heap) ks vs)(hc:cr ks=true)(hf:c7 ks=true)(O:vs.length<64)
  (h:∀p:Array Nat,mL vs.length p->Up (zM ks) p vs.length->Q (.ref (s.z+1)) { s with heap:=sortedAll s.heap vs (List.toArray (p.toList.map λi=>vs.getD i Value.none)) }):
  wpAny (model prog w) A (call (.builtin "sorted") [.ref l]) Q E s:=by
 let h1:=(s.heap.push (seqObj "list" #[] 0)).update s.z (Obj.mapSeq (· ++ vs.toArray));have hsz:h1.objs.size=s.z+1:=by grind[Heap.size_update,size_push']
 let h2:Heap:=h1.push (seqObj "list" vs.toArray 0);have M:h2.get? (s.z+1)=some (seqObj "list" vs.toArray 0):=by rw[<-hsz];exact vY _ rr
 have U:Paired (dB h2) ks vs:=L2.Paired.mapP hk λk v x=>x.keep λb u _ q=>
  vZ _ ((Heap.get?_update_ne _ _ _ _ (vS (vX q))).trans (vZ _ q))
 refine Calls.call_function_entry kind_sorted plain_sorted entry_sorted (args_sorted1 _) ?_;refine wX (wY (wX (collect_list hl (wX (wpAny_newList ?_)))));rw[show((s.heap.push _).update _ _).objs.size=s.z+1 from hsz];exact wX (wpAny_holding (wpAny_call_entry slot_list_sort ⟨_,M,rr⟩ entry_list_sort (DY M U hc hf O λp ap a=>⟨_,rr,wY ⟨_,rr,h p ap a⟩⟩) (args_list_sort _)))
end
end DL
namespace DL
open PySem PySem.Spec PySem.W PyProof.Rows L2
noncomputable def tO:D->Option At
 |.int n=>some (.i n)
 |.str z=>some (.s z)
 |_=>none
def iK:LD->Option (List At)
 |[]=>some []
 |d::ds=>(tO d).bind λa=>(iK ds).map (a :: ·)
def nn:D->Option (List At)
 |.tup es=>iK es
 |_=>none
def da:LD->Option (List (List At))
 |[]=>some []
 |d::ds=>(nn d).bind λa=>(da ds).map (a :: ·)
def GG (d:D):LI:=bV ((nn d).getD [])
noncomputable def fU:LD->Option LI
 |[]=>some []
 |.int n::ds=>(fU ds).map (n :: ·)
 |_::_=>none
def hG (ns:LI):LI:=cL (λn=>[n]) ns
def eJ:LD->OB
 |[.lst ds]=>match eQ ds with
  |some ss=>if ss.length<64 then some (.lst ((kI ss).map .str),true)else none
  |none=>match fU ds with
   |some ns=>if ns.length<64 then some (.lst ((hG ns).map .int),true)else none
   |none=>match da ds with
    |some ks=>if ks.length<64/\cr ks=true/\c7 ks=true then some (.lst (cL GG ds),true)else none
    |none=>none
 |_=>none
theorem DZ (h:tO d=some a)(k:tO e=some a):d=e:=by
 cases d<;>simp [tO]at h<;>cases h<;>cases e<;>simp [tO]at k<;>cases k<;>rfl
theorem qp:∀ {ds es:LD}{M:List At},iK ds=some M->iK es=some M->ds=es
 |[],[],_,_,_=>rr
 |[],e::es,M,h,k=>by
  cases h
  obtain⟨a,_,k⟩:=oX k;simp_all
 |d::ds,[],M,h,k=>by
  cases k
  obtain⟨a,_,h⟩:=oX h;simp_all
 |d::ds,e::es,M,h,k=>by
  obtain⟨a,h1,h⟩:=oX h;obtain⟨r,h2,h⟩:=oY h;obtain⟨b,k1,k⟩:=oX k;obtain⟨c,k2,k⟩:=oY k;subst h;injection k with O U;subst O;subst U;rw[DZ h1 k1,qp h2 k2]
theorem GH (h:nn d=some k)(h':nn e=some k):d=e:=by
 cases d<;>simp [nn]at h<;>try (cases h)
 cases e<;>simp [nn]at h'<;>try (cases h')
 rw[qp h h']
theorem fE:∀ {ds:LD}{ks:List (List At)},da ds=some ks->ks.length=ds.length
 |[],_,h=>by simp_all[da]
 |d::ds,_,h=>by
  obtain⟨a,h1,h⟩:=oX h;obtain⟨r,h2,h⟩:=oY h;subst h;simp[fE h2]
theorem hJ:∀ {ds:LD}{ks:List (List At)},da ds=some ks->∀ {i:Nat},i<ds.length->nn (ds.getD i .non)=some (ks.getD i [])
 |[],_,h,i,hi=>by simp at hi
 |d::ds,_,h,0,hi=>by
  obtain⟨a,h1,h⟩:=oX h;obtain⟨r,h2,h⟩:=oY h;subst h;exact h1
 |d::ds,_,h,i+1,hi=>by
  obtain⟨a,h1,h⟩:=oX h;obtain⟨r,h2,h⟩:=oY h;subst h;exact hJ h2 (by simpa using hi)
theorem qq {α:Type}(l:List α)(d:α):(List.range l.length).map (λi=>l.getD i d)=l:=by
 apply ext_getElem?;intro i;by_cases h:i<l.length
 .simp[h]
 .simp[h]
theorem A2 (hk:da ds=some ks)(hc:cr ks=true)(ap:mL ds.length p)(U:Up (zM ks) p ds.length):p.toList.map (λi=>ds.getD i .non)=cL GG ds:=by
 have mem:∀x∈ds,∃k∈ks,nn x=some k:=λx hx=>by
  obtain⟨i,hi,rfl⟩:=List.mem_iff_getElem.mp hx;have:=hJ hk hi;grind[fE]
 apply gZ GG
 .grind[GG,jW,GH]
 .have:=ap.perm.map (λi=>ds.getD i .non);rw[qq]at this;exact this
 .rw[List.pairwise_iff_getElem];intro i j hi hj M;have hsz:=ap.size;have g:i<p.size:=by simpa using hi
  have a:j<p.size:=by simpa using hj
  have:=U i j (le_of_lt M) N9;unfold bK zM at this;have b:p.getD i 0=p[i]:=by simp_all
  have c:p.getD j 0=p[j]:=by simp_all
  have d:=ap.lt (k:=i) N9;have O:=ap.lt (k:=j) N9;have e:ks.getD (p.getD j 0) []∈ks:=by
   have h':p.getD j 0<ks.length:=by rw[fE hk];exact O
   rw[getD_eq_getElem?_getD,vU h'];exact getElem_mem h'
  have f:¬bV _<bV (ks.getD (p.getD i 0) []):=λz=>by
   have:=wl (cs:=ks.map bV) (uR ⟨_,e,rr⟩) z;lia
  simp only[List.getElem_map,Array.getElem_toList];unfold GD GG;rw[<-b,<-c,hJ hk d,hJ hk O];exact f
section
variable {X:Cx}
theorem yx {K:Frag}{B:Hp}:∀ {vs:LV}{es:LD}{k:List At}{its:LU},aF vs its->IsL K B vs es->iK es=some k->Paired zL k its
 |_,_,_,_,.nil,.nil,h=>by cases h;exact .nil
 |_,_,_,_,.cons r M,.cons i O,h=>by
  obtain⟨a,h1,h⟩:=oX h;obtain⟨t,h2,h⟩:=oY h;subst h;refine .cons ?_ (yx M O h2);cases i<;>simp [tO]at h1<;>cases h1
  .exact r
  .exact r
theorem lR {af:AO}{σ:St}{H:Hp}{s:Shared}(I:Inv X af σ H s):∀ {ys:LV}{ds:LD}{ks:List (List At)}{its:LU},aF ys its->IsL X.K H ys ds->da ds=some ks->Paired (dB s.heap) ks its
 |_,_,_,_,.nil,.nil,h=>by cases h;exact .nil
 |_,_,_,_,.cons r M,.cons i O,h=>by
  obtain⟨a,h1,h⟩:=oX h;obtain⟨t,h2,h⟩:=oY h;subst h;refine .cons ?_ (lR I M O h2);cases i<;>simp [nn]at h1<;>try (cases h1)
  rename_i hq hl;cases r
  obtain⟨its',U,⟨o,ho,hc,n,hd⟩,_⟩:=I.tuple hq;exact⟨_,o,_,n,rr,ho,hc,hd,by simpa using yx U hl h1⟩
theorem BQ {K:Frag}{B:Hp}:∀ {vs:LV}{ds:LD},IsL K B vs ds->∀ {i:Nat},i<ds.length->Is K B (vs.getD i .non) (ds.getD i .non)
 |_,_,.cons h _,0,_=>h
 |_,_,.cons _ t,i+1,hi=>by
  exact BQ t (by simpa using hi)
 |_,_,.nil,i,hi=>by simp at hi
theorem yy:∀ {vs:LV}{us:LU},aF vs us->∀ {i:Nat},i<vs.length->aG (vs.getD i .non) (us.getD i Value.none)
 |_,_,.cons h _,0,_=>h
 |_,_,.cons _ t,i+1,hi=>by
  exact yy t (by simpa using hi)
 |_,_,.nil,i,hi=>by simp at hi
theorem qr {K:Frag}{B:Hp}{vs:LV}{ds:LD}(h:IsL K B vs ds):∀(l:LN),(∀i∈l,i<ds.length)->IsL K B (l.map λi=>vs.getD i .non) (l.map λi=>ds.getD i .non)
 |[],_=>.nil
 |i::l,hl=>.cons (BQ h (hl i (mX ..))) (qr h l λj hj=>hl j (mZ _ hj))
theorem np (h:aF vs us):∀(l:LN),(∀i∈l,i<vs.length)->aF (l.map λi=>vs.getD i .non) (l.map λi=>us.getD i Value.none)
 |[],_=>.nil
 |i::l,hl=>.cons (yy h (hl i (mX ..))) (np h l λj hj=>hl j (mZ _ hj))
end
section
variable {X:Cx}
theorem wo {K:Frag}{B:Hp}:∀ {vs:LV}{ds:LD}{ns:LI}{its:LU},aF vs its->IsL K B vs ds->fU ds=some ns->IntsAre its ns
 |_,_,_,_,.nil,.nil,h=>by simp only[fU]at h;cases h;exact .nil
 |_,_,_,_,.cons r M,.cons i O,h=>by
  cases i<;>simp only[fU]at h<;>try (cases h;done)
  obtain⟨t,h2,h⟩:=oY h;subst h;obtain⟨u,rfl⟩:=r;exact .cons _ u (wo M O h2)
theorem dY:∀ {its:LU}{zs:LI},IntsAre its zs->aF (zs.map V.int) its
 |_,_,.nil=>.nil
 |_,_,.cons x t r=>.cons ⟨t,rr⟩ (dY r)
theorem jr {K:Frag}{N:Hp}:∀(zs:LI),IsL K N (zs.map V.int) (zs.map D.int)
 |[]=>.nil
 |z::zs=>.cons (.int z) (jr zs)
theorem qt (p:M.Perm l)(h:M.Pairwise (·<=·)):M=hG l:=by
 refine gZ _ (λx _ y _ e=>by injection e) p (h.imp λ{a b} O=>?_);unfold GD;intro z;rw[cons_lt_cons_iff]at z;rcases z with z|⟨_,z⟩
 .omega
 .exact lt_irrefl _ z
theorem lg (I:Inv X af σ H s)(O:aD B H)(q:Fin X.K B H (.lst ds) true Q)(hv:aF ys out.toList)(hl:IsL X.K B ys ds)(hz:ys.length<=sizeLine):
  EP X af σ Q (.ref (s.z+1)) { s with heap:=sortedAll s.heap its out }:=by
 obtain⟨e,he⟩:=sortedAll_at s.heap its out;have hp:H (s.z+1)=none:=I.hok.fresh (le_succ _);have M:=Ext.laid (o:=.lst ys) O hp;exact⟨.ref _,_,I.laid (t':=s.toks) (λb o=>sortedAll_old) (le_succ _) (show bc X.prog X.w _ _ _ (.lst ys)from ⟨hz,out.toList,e,hv,he⟩),rr,
  q _ _ _ M (.lst (dW.of aq) (hl.mono M.bn)) λ_=>⟨_,_,_,rr,rr,hp,aq,hl.mono M.bn⟩⟩
theorem GI:bH X (.builtin "sorted") (Ae X.K eJ):=by
 intro af s σ H xs us Q I r h;obtain⟨B,dl,d,bb,U,i,M,q⟩:=h;cases i with
 |nil=>simp[eJ]at M
 |cons i1 i2=>
  cases i2 with
  |cons _ _=>cases i1<;>simp[eJ]at M
  |nil=>
   cases i1<;>try (simp[eJ]at M;done)
   rename_i w vs ds h hl;obtain⟨u,rfl,m⟩:=fM r;cases m
   obtain⟨its,a,pl,hz⟩:=I.list (U.seq h);have x:vs.length=its.length:=a.length;have y:ds.length=vs.length:=hl.length.symm;simp only[eJ]at M;split at M
   .rename_i ss es;split at M
    .rename_i j;cases M
     have O:=fR a hl es;have n:its.length=ss.length:=by rw[<-O.strs,vH]
     refine sorted_strs pl.isList (by simpa using O) (by omega) λout b c f g=>?_;have e:=tL f g;subst e;exact lg I U q (mU c) (qj _) (by rw[vH,(dm ss).length_eq,sizeLine_eq];omega)
    .cases M
   .split at M
    .rename_i ns es;split at M
     .rename_i j;cases M
      have O:=wo a hl es;have n:its.length=ns.length:=IntsAre.length O;refine sorted_ints pl.isList (by simpa using O) (by omega) λout b c f g=>?_;have e:=qt f g;subst e;exact lg I U q (dY c) (jr _) (by rw[vH];unfold hG;rw[(aC _ ns).length_eq,sizeLine_eq];omega)
     .cases M
    .split at M
     .rename_i ks es;split at M
      .rename_i hh;obtain⟨j,hc,hf⟩:=hh;cases M
       have o:=fE es;have O:=lR I a (hl.mono U) es;refine yw pl.isList (by simpa using O) hc hf (by omega) λp ap k=>?_;have t:its.length=ds.length:=by omega
       rw[t]at ap k;have e:=A2 es hc ap k;have v:∀i∈p.toList,i<ds.length:=λi hi=>mem_range.mp (ap.perm.mem_iff.mp hi);have l:=qr hl p.toList v;rw[e]at l;refine lg I U q (ys:=p.toList.map λi=>vs.getD i .non) ?_ l ?_
       .grind[np]
       .rw[vH,vF,ap.size,sizeLine_eq];omega
      .cases M
     .cases M
end
end DL
namespace DL
open PySem PySem.Spec PyProof.Rows L2
section
variable {X:Cx}{e:Expr}{pos pos2 p p2:Pos}
theorem sJ:bH X (.builtin "len") (λxs H Q=>∃S M,xs=[.ref S]/\H S=some (yn (PySem.strKind X.prog X.w) strOf S M)/\Q (.int (M.length:Nat)) H):=by
 intro af s σ H xs us Q I r h;obtain⟨S,M,rfl,U,q⟩:=h;obtain⟨u,rfl,a⟩:=fM r;cases a
 have b:gY (PySem.strKind X.prog X.w) strOf s.heap S M:=(I.hok S _ U).1;obtain⟨o,es,d,t,ho,O,hd,f,hp,nd,hb,hf,_⟩:=b;have sz:es.size=M.length:=by rw[<-hp.length_eq,vH,vF]
 have c:M.length<4096:=hb;exact PySem.call_len_set ho O hd hf (by rw[sz];omega) ⟨.int (M.length:Nat),H,I.tok _,⟨_,by rw[sz]⟩,q⟩
theorem Ea (hc:X.calm=true)(m1:X.mg "len" = none)(m2:X.mg "set" = none)(he:JE X e f)(g1:Gl X "len")(b:Gl X "set")
  (h1:starEach [e] X.env=(false,eval e X.env)::starEach [] X.env):JE X (.Call (.Name "len" p) [.Call (.Name "set" p2) [e] [] pos2] [] pos) (f1 we f):=by
 refine PE.to (pL sJ g1 m1 NT (cF (mO (ot Zn hc) b m2 NV (cF he dX h1) (he:=h1)) dX)) λσ H Q q=>?_;obtain⟨B,ρ,d',bb,c,r,M,q⟩:=q;obtain⟨U,ex,M⟩:=oX M;refine⟨B,ρ,U.1,U.2,c,r,ex,λv k N1 O i1 l=>?_⟩;obtain⟨xd,m⟩:=U;cases i1<;>try (simp[we]at M;done)
 rename_i n vs ds h hl;simp only[we]at M;obtain⟨ss,d,M⟩:=oX M;split at M
 .rename_i g;cases M
  refine⟨_,_,ss,rr,O.nh.seq h,λits i=>StrsAre.keys (fR i hl d),g,λS j=>⟨S,_,rr,aq,?_⟩⟩;have a:=Ext.laid (o:=yn (PySem.strKind X.prog X.w) strOf S (dU ss)) O.nh j;exact(q.into (O.trans a)).one (O.trans a).nh (.int _)
 .cases M
end
section
variable {X:Cx}{pos:Pos}
theorem qu:∀ {ns:LI}{its:LU},aF (ns.map V.int) its->IntsAre its ns
 |[],_,.nil=>.nil
 |n::ns,_,.cons ⟨t,e⟩ r=>by subst e;exact .cons n t (qu r)
noncomputable def U9 (n:Int):Value->Bool
 |.int m _=>m == n
 |_=>false
theorem GJ {K:Frag}{B:Hp}:∀ {vs:LV}{ds:LD}{ns:LI},IsL K B vs ds->fU ds=some ns->vs=ns.map V.int
 |_,_,_,.nil,h=>by simp_all[fU]
 |_,_,_,.cons i M,h=>by
  cases i<;>simp only[fU]at h<;>try (cases h)
  obtain⟨t,h2,h⟩:=oY h;subst h;rw[GJ M h2];rfl
end
section
variable {X:Cx}{a:Expr}{pos:Pos}{x:Str}{p:Pos}{d:Addr}{a7:List (Str×D)}
theorem Eb (cd:lM X.K X.w.params d a7):cj X (compareOp .NotIn) (λx y H Q=>∃z,x=.str z/\y=.ref d/\Q (.bl (!(a7.lookup z).isSome)) H):=by
 rintro af s σ H _ _ v u Q I O U ⟨z,rfl,rfl,q⟩;cases U
 obtain⟨t,rfl⟩:=O;obtain⟨f,b,c,hf⟩:=cd.map I;refine wpAny_notIn_of (strKind_is _ _ z t) c b ⟨.bl _,H,I.tok _,?_,q⟩;have:=hf z;cases M:a7.lookup z with
 |none=>rw[M]at this;rw[this];rfl
 |some dd=>rw[M]at this;obtain⟨_,_,e,_⟩:=this;rw[e];rfl
theorem Ec (h:∃d,X.mg x=some (.ref d)/\lM X.K X.w.params d a7)(ha:JE X a f)(c:Gl X x)(hd:(x == ("__debug__" : Str))=false)(hm:behindInMarks .NotIn (.Name x p)=false):JT X (.Compare a [.NotIn] [.Name x p] pos) (bD (f1 (Ap a7) f)):=by
 obtain⟨d,O,cd⟩:=h;refine PT.to (Bp (Eb cd) ha (pw (v:=.ref d) c O rr hd) hm) λσ H Q q=>?_;obtain⟨B,ρ,d',bb,e,r,M,q⟩:=vn q;obtain⟨U,ex,M⟩:=oX M;refine⟨B,ρ,U.1,U.2,e,r,ex,λv g N1 b i1 i=>?_⟩;obtain⟨xd,j⟩:=U;cases i1<;>try (simp at M;done)
 rename_i z;cases M
 exact⟨z,rr,rr,(q.into b).one b.nh (.bl _)⟩
end
section
variable {prog:Program}{w:World}{A:Around}{E:QV}{s:Shared}
theorem A3 {a:Addr}{o:Obj}{its:AV}{n:Nat}{x:Value}{e:Value->Bool}{j:Nat}{P:PySem.Fin->Shared->Prop}(ho:s.heap.get? a=some o)(hd:o.data=.seq its n)
  (he:∀y∈its,MeetsSeq.EqGives y x (e y)) (hj:j<its.size) (u9:e its[j]=true) (M:∀m (hm:m<its.size),m<j->e its[m]=false)
  (h:P (.done (.ret (.int j s.toks))) { s with toks:=s.toks+1 }):wpAny (model prog w) A (Builtin.«tuple.index» ⟨[.ref a,x],[]⟩) P E s:=by
 show wpAny _ _ (Builtin.Tuple.tupleItemsOf _>>=_) _ _ s;refine wX (wpAny_tupleItemsOf ho hd ?_);refine wX (wY (wX (wY (wX ?_))));rw[Std.Legacy.Range.forIn_eq_forIn_range'];refine wpAny_forIn_list _
  (λag r s'=>r.1=none/\s'=s/\∃i,i<=j/\ag=List.range' i (its.size - i))
  _ ?_ ?_ _ _ ⟨rr,rr,0,uM _,?_⟩
 .rintro k ag r s' ⟨hr,rfl,i,hi,hz⟩;have c:i<its.size:=N9
  obtain⟨m,hm⟩:∃m,its.size - i=m+1:=⟨its.size - i - 1,N9⟩;rw[hm]at hz;injection hz with O d;have O:=O.symm;subst O;have b:its[i]? = some its[i]:=V9
  simp only[b];refine wX (he _ (Array.getElem_mem _) _ w _ _ _ _ ?_);by_cases U:i=j
  .subst U;rw[u9];refine wX ?_;exact wX (wpAny_mkInt (wY (wY (wY h))))
  .rw[M i _ N9];exact wY ⟨rr,rr,i+1,N9,by grind⟩
 .grind
 .simp
end
theorem CRows.findT {K:Frag}{P:Params}(y:Str){ds:LD}:∀ {es:List DictEntry}{a7:List (Str×D)},CRows K P es a7->a7.lookup y=some (.tup ds) ->
  ∃e a its n mM,es.find? (λe=>Value.isStrOf y e.key)=some e/\e.val=.ref a/\K.lookup a=some ⟨.type "tuple",none,.seq its n,mM⟩/\iF its.toList ds=true
 |_,_,.nil,h=>by simp at h
 |_,_,.tup (x:=x) (t:=t) (a:=a) (ds:=O) hh l f tl,h=>by
  by_cases e:y=x
  .subst e;rw[List.lookup_cons_self]at h;cases h
   rw[vB]at f;exact⟨_,a,_,_,_,List.find?_cons_of_pos (by simp[Value.isStrOf]),rr,l,f.2⟩
  .rw[lookup_cons,beq_eq_false_iff_ne.mpr e]at h;have M:Value.isStrOf y (Value.str x t)=false:=by
    rw[Bool.eq_false_iff];intro z;obtain⟨t',q⟩:=Value.isStrOf_shape z;simp_all
   simp only[find?_cons,M];exact tl.findT y h
 |_,_,.flat (x:=x) (t:=t) (u:=u) (d:=d) hh f tl,h=>by
  by_cases e:y=x
  .subst e;rw[lookup_cons,beq_self_eq_true]at h;cases h;cases u<;>cases f
  .rw[lookup_cons,beq_eq_false_iff_ne.mpr e]at h;have M:Value.isStrOf y (Value.str x t)=false:=by
    rw[Bool.eq_false_iff];intro z;obtain⟨t',q⟩:=Value.isStrOf_shape z;simp_all
   simp only[find?_cons,M];exact tl.findT y h
section
variable {X:Cx}{b e:Expr}{pos:Pos}{x:Str}{p:Pos}
def X6 (K:Frag):V->LV->Hp->VK->Prop:=λx xs H Q=>∃(a:Addr)(o:Obj)(its:AV)(n:Nat)(zs:LS)(y:Str),x=.ref a/\xs=[.str y]/\K.lookup a=some o/\o.cls=.type "tuple"/\o.data=.seq its n/\StrsAre its.toList zs/\zs.findIdx (· == y)<zs.length/\Q (.int (zs.findIdx (· == y):Nat)) H
noncomputable def NW (y:Str):Value->Bool
 |.str z _=>z == y
 |_=>false
theorem BR:∀ {its:LU}{zs:LS},StrsAre its zs->∀(i:Nat)(hi:i<its.length),∃(h:i<zs.length)(t:Tok),its[i]=.str zs[i] t
 |_,_,.cons z t h,0,_=>⟨V9,t,rr⟩
 |_,_,.cons z t h,i+1,hi=>by
  obtain⟨h',t',e⟩:=BR h i (by simpa using hi);simp_all
 |_,_,.nil,i,hi=>by simp at hi
theorem yz:∀ {its:LU}{zs:LS},StrsAre its zs->its.length=zs.length
 |_,_,.nil=>rr
 |_,_,.cons _ _ h=>by rw[vC,vC,yz h]
theorem GK:K8 X "tuple.index" (X6 X.K):=by
 intro af s σ H x xs v us Q I U c h;obtain⟨a,o,its,n,zs,y,rfl,rfl,d,hc,hd,hz,hk,q⟩:=h;cases U
 obtain⟨u,rfl,⟨t,rfl⟩⟩:=c.one;have ho:=I.kIn a o d;have hl:=yz hz;rw[vF]at hl;have at':∀(i:Nat)(hi:i<its.size),∃(h:i<zs.length)(t:Tok),its[i]=.str zs[i] t:=λi hi=>by
  obtain⟨h',t',e⟩:=BR hz i (by simpa using hi);exact⟨h',t',by simpa using e⟩
 refine wpAny_call_entry PySem.F.slot_tuple_index ⟨o,ho,hc⟩ PySem.F.entry_tuple_index (A3 (e:=NW y) ho hd (λz hm=>?_) N9 ?_ (λm hm O=>?_) ⟨_,rr,.int _,H,I.tok _,⟨_,rr⟩,q⟩) (PySem.F.args_tuple_index_2 _ _)
 .obtain⟨i,hi,rfl⟩:=Array.mem_iff_getElem.mp hm;obtain⟨_,t',M⟩:=at' i hi;rw[M];exact eqGives_str _ _ _ _
 .obtain⟨_,t',M⟩:=at' (zs.findIdx (· == y)) N9;rw[M];exact List.findIdx_getElem (w:=hk)
 .obtain⟨_,t',M⟩:=at' m hm;rw[M];have:=List.not_of_lt_findIdx O;simpa [NW]using this
@[simp] def lh (a7:List (Str×D)):D->D->OB
 |.str y,.str z=>match a7.lookup y with
  |some (.tup ds)=>(eQ ds).bind λzs=>if zs.findIdx (· == z)<zs.length then some (.int (zs.findIdx (· == z):Nat),false)else none
  |_=>none
 |_,_=>none
theorem Me {a7:List (Str×D)}{f g:FE}{bQ bq:Pos}(h:∃d,X.mg x=some (.ref d)/\lM X.K X.w.params d a7)(hb:JE X b f)(he:JE X e g)(C:Gl X x)(E:(x == ("__debug__" : Str))=false)(hs:lA b)
  (O:attributeBase (.Subscript (.Name x p) b pos) "index" X.env (eval (.Subscript (.Name x p) b pos) X.env)=eval (.Subscript (.Name x p) b pos) X.env)
  (G:((backTo bq (starEach [e] X.env)).all (λx=>!x.1) && (backToKw bq (keywordEach [] X.env)).all (λx=>x.1.isSome)
   && decide ([e].length+([]:List Keyword).length+(if([]:List Keyword).isEmpty then 0 else 1)<30))=true)
  (U:(bQ.endLine == bq.line)=true) (m:starEach [e] X.env=[(false,eval e X.env)]):
  JE X (.Call (.Attribute (.Subscript (.Name x p) b pos) "index" bQ) [e] [] bq) (f2 (lh a7) f g):=by
 obtain⟨d,hm,cd⟩:=h;have J:Fz X (λx y H Q=>∃z ds,x=.ref d/\y=.str z/\a7.lookup z=some (.tup ds)/\∀a its n mM,X.K.lookup a=some ⟨.type "tuple",none,.seq its n,mM⟩->iF its.toList ds=true->Q (.ref a) H):=by
  intro c i af s σ H x y v u Q I L N q hs;obtain⟨z,ds,rfl,rfl,j,q⟩:=q;cases L
  obtain⟨t,rfl⟩:=N;obtain⟨es,n,l,r,sm⟩:=cd;have o:=PySem.W.mapOf_K (prog:=X.prog) I.kIn l r.lit;obtain⟨en,a,its,n',mM,e1,e2,P,R⟩:=r.findT z j;have S:findBy Value.isStrOf es z=some (.ref a):=by
   simp_all[findBy]
  exact tail_any o.typeIs slot_dict_getitem.lookup (wpAny_getItem_of (strKind_is X.prog X.w z t) o S ⟨.ref a,H,I.tok _,rr,q a _ _ _ P R⟩) hs
 refine PE.to (xD PySem.F.plainAttrs_tuple PySem.F.slot_tuple_index PySem.F.type_tuple_index GK (F0 J (pw (v:=.ref d) C hm rr E) hb hs) (cF he dX m) O G U m rr) λσ H Q q=>?_;obtain⟨B,ρ,d',bb,T,r,M,q⟩:=q;obtain⟨V,ex,M⟩:=oX M;obtain⟨Y,Z,M⟩:=oX M;obtain⟨xd,xb⟩:=V;obtain⟨yd,yb⟩:=Y;cases xd with
 |str z=>
  cases yd with
  |str y=>
   refine⟨B,ρ,_,xb,T,r,ex,λv H1 N1 k i1 _=>?_⟩;cases i1
   simp only[lh]at M;split at M
   .rename_i ds j;obtain⟨zs,ez,M⟩:=oX M;split at M
    .rename_i hk;cases M
     refine⟨z,ds,rr,rr,j,λa its n mM l fl=>⟨.inr (.inl ⟨rr,_,l,rr,rr⟩),N1,ρ,_,yb,k.nh,r.mono k.bn,Z,λv2 H2 N2 A i2 _=>?_⟩⟩;cases i2
     obtain⟨vs,rv,iv⟩:=iG (K:=X.K) fl;exact⟨a,_,its,n,zs,y,rr,rr,l,rr,rr,fR rv (iv N2) ez,hk,(q.into (k.trans A)).one A.nh (.int _)⟩
    simp_all
   simp_all
  |_=>simp[lh]at M
 |_=>simp[lh]at M
end
open PySem.W (tabIn tabObj CodeHd kla_fn kla_obj kla_eval kla_makeFunction kla_makeFunctionHit kla_callFunE kla_codeExpr envX)
def UA (K:Frag)(c P:Addr):Prop:=∃o vs O a M tg b U d,K.lookup c=some o/\o.cls=.type "code"/\o.data=.fields vs/\vs[11]? = some (.ref P)/\vs.getD 11 .none=.ref P/\vs.getD 18 .none=.str O a /\
 vs.getD 7 .none=.int M tg/\vs.getD 9 .none=.bool b/\vs.getD 10 .none=.int U d/\c≠P
def y0 (K:Frag)(x:Str):Prop:=∃c P,tabIn K x=some (c,P)/\UA K c P
def GL (H:Hp)(f:Addr)(q:Str)(params:Arguments)(M:Expr)(scope:Scope)(cl:List (Str×Addr)):Prop:=
 ∃pm c O u oc U vs t,H f=some (.frz (kla_obj "<lambda>" q params M scope cl pm c O) u)/\H c=some (.frz oc U)/\oc.data=.fields vs/\vs[1]? = some (.str q t)
theorem GL.mono (h:GL H f q params U scope cl)(e:aD H H'):GL H' f q params U scope cl:=
 let ⟨pm,c,M,u,oc,O,vs,t,h1,h2,h3,h4⟩:=h;⟨pm,c,M,u,oc,O,vs,t,e _ _ h1,e _ _ h2,h3,h4⟩
theorem lam_mk {K:Frag}{x:Str}{f c P:Addr}{oc:Value}{od b:Option Addr}{mM k:Array (Option Value)}{fd:FuncData}{vs:AV}{O:Str}{e tg g:Tok}{M U:Int}{h:Bool}(l:nsIn K mainGlobals x=some (some (.ref f)))(e2:K.lookup f=some ⟨oc,od,.func fd,mM⟩)
  (m:fd.code=.ref c) (i:K.lookup c=some ⟨.type "code",b,.fields vs,k⟩) (j:vs[11]? = some (.ref P)) (n:vs.getD 11 .none=.ref P) (o:vs.getD 18 .none=.str O e) (p:vs.getD 7 .none=.int M tg) (q:vs.getD 9 .none=.bool h) (d:vs.getD 10 .none=.int U g) (a:(c == P)=false):y0 K x:=
 ⟨c,P,tab_yes l e2 m i j,_,vs,O,e,M,tg,h,U,g,i,rr,rr,j,n,o,p,q,d,λz=>by rw[z]at a;simp at a⟩
theorem A4 (l:LU)(h:TriplesOk l)(e:codeAmong U (l++[rawInt a,rawInt b,c])=some cv):codeAmong U l=some cv\/cv=c:=by
 fun_induction TriplesOk l with
 |case1=>
  simp_all[rawInt,codeAmong]
 |case2 M t b' u x ag O=>
  simp only[cons_append,codeAmong]at e |-;split<;>simp_all
 |case3 l h1 h2=>exact h.elim
section
variable {X:Cx}{af:AO}{σ:St}{H:Hp}{s:Shared}
theorem GN
  (hx:x∈jl) (L:y0 X.K x) (hc:∀c P,tabIn X.K x=some (c,P)->X.env.code=.ref c) (hq:X.env.qual ++ "<lambda>" = sy x) (Y5:defaultsOf params X.env=([],[])) (T:closureFor scope X.env=pure cl)
  (I:Inv X af σ H s) (tb:Tb X.K H) (k:∀f H' s',Inv X af σ H' s'->aD H H'->GL H' f (sy x) params body scope cl->Q (.ref f) s'):
  wq X (eval (.Lambda params body scope pos) X.env) Q E s:=by
 refine kla_eval Y5 ?_;rw[hq];obtain⟨c,P,V,o,vs,Y6,tf,VV,tg,SN,Y7,tt,lk,ck⟩:=L;have O:=hc c P V;have y:=tb x hx c P V;obtain⟨ps,e,A,co⟩:=I.hok P _ y;have C:CodeHd s.heap c P:=⟨o,vs,Y6,tf,VV,tg,SN,Y7,tt,I.kIn c o lk,ck⟩;have W:s.heap.Ns mainGlobals X.mg:=I.mod.glob.keeps I.bk;have j:∀b,H b=none->b≠P:=λb n z=>by rw[z,y]at n;cases n
 have B:mainGlobals≠P:=by
  obtain⟨og,_,_,Y,_⟩:=I.mod.glob;exact j _ (I.bs _ _ Y).2
 have hb:s.heap.BuiltinsAt X.mg P:=by
  obtain⟨bm,ob,b1,b2,b3,b4,b5,b6⟩:=I.mod.bmain;refine⟨bm,ob,b1,b2,λz=>?_,j _ (I.bs _ _ b3).2,I.bk _ _ b3,b4,b5,b6⟩;obtain⟨og,es,ep,Y,dg,_⟩:=I.mod.glob;simp_all
 cases hf:codeAmong pos ps.toList with
 |some cv=>
  obtain⟨M,oc,u,l,t,rfl,hH,hd,hv⟩:=co pos cv hf;refine kla_makeFunctionHit (mg:=X.mg) T I.ok.glob W O C e A hf hb λU h' tk hk hsz=>?_;have hn:H h'.objs.size=none:=I.hok.fresh hsz;have a:aD H (upd H h'.objs.size (.frz (kla_obj "<lambda>" (sy x) params body scope cl ((X.mg "__name__").getD .none) M U) (.own h'.objs.size))):=λb u q=>by rw[a6 (aL q hn)];exact q
  refine k _ _ _ (I.laid (t':=tk) (λb u q=>vZ _ (hk b u q)) hsz (show bc X.prog X.w _ _ _ (.frz _ (.own h'.objs.size))from ⟨vY _ rr,_,vY _ rr⟩)) a ?_;exact⟨_,M,U,_,oc,u,l,t,aq,a _ _ hH,hd,hv⟩
 |none=>
  refine kla_makeFunction (mg:=X.mg) T I.ok.glob W O C e A hf B hb λM U h' tk hx' g Z h D=>?_;obtain⟨c2,oc,l,t,e2,O4,hd,hv⟩:=h;cases e2
  have Y8:H M=none:=I.hok.fresh g;have hsz:s.z<=h'.objs.size:=vR g (le_of_lt Z);have F:H h'.objs.size=none:=I.hok.fresh hsz;have G:M≠h'.objs.size:=vS Z;let fo:Obj:=kla_obj "<lambda>" (sy x) params body scope cl ((X.mg "__name__").getD .none) M U;let m:Hp:=upd (upd H M (.frz oc (.own M))) h'.objs.size (.frz fo (.own h'.objs.size));have a:aD H m:=λb u q=>by
   show upd _ _ _ b=_;rw[a6 (aL q F),a6 (aL q Y8)];exact q
  have J:m M=some (.frz oc (.own M)):=by show upd _ _ _ M=_;rw[a6 G,aq]
  have keep:∀b u,b≠P->s.heap.get? b=some u->(h'.push fo).get? b=some u:=λb u n q=>vZ _ (hx' b u n q);have lt:∀b u,s.heap.get? b=some u->b≠M/\b≠h'.objs.size:=λb u q=>⟨vS (vQ (vX q) g),vS (vQ (vX q) hsz)⟩;have VW:(h'.push fo).get? P=some (tabObj (ps++#[rawInt pos.line,rawInt pos.col,.ref M])):=vZ _ D;refine k _ m _ (I.un (t':=tk) (h':=h'.push fo) ⟨λb u q n _ _=>keep b u (j b n) q,λb u q n _ _=>⟨u.slots,keep b u (j b n) q⟩,λb u q n _=>?_,λb u q _=>?_,λb xs q=>a _ _ q,λb ob u q=>a _ _ q,λb u q=>a _ _ q⟩ λb u q=>?_) a ⟨_,M,U,_,oc,_,l,t,aq,J,hd,hv⟩
  .show upd _ _ _ b=_;rw[a6 (lt b u q).2,a6 (lt b u q).1];exact n
  .by_cases z:b=P
   .subst z;exact⟨_,VW⟩
   .exact⟨u,keep b u z q⟩
  .by_cases z1:b=h'.objs.size
   .subst z1;have i:some (HO.frz fo (.own h'.objs.size))=some u:=by rw[<-q];exact aq.symm
    cases i
    exact⟨vY _ rr,_,vY _ rr⟩
   .by_cases z2:b=M
    .subst z2;rw[J]at q;cases q;exact⟨vZ _ O4,_,vZ _ O4⟩
    .have i:H b=some u:=by
      have:m b=H b:=by show upd _ _ _ b=_;rw[a6 z1,a6 z2]
      rw[<-this];exact q
     by_cases z3:b=P
     .subst z3;rw[y]at i;cases i;refine⟨_,VW,?_,λKx N p=>?_⟩
      .simp_all[TriplesOk_snoc]
      .rw[Array.toList_append]at p;rcases A4 _ A p with p|rfl
       .obtain⟨c3,R,u3,S,t3,y1,y2,y3⟩:=co Kx N p;exact⟨c3,R,u3,S,t3,y1,a _ _ y2,y3⟩
       .exact⟨M,oc,_,l,t,rr,J,hd,hv⟩
     .refine(I.hok b u i).stay (λd v WD r=>keep d v ?_ r) (λd r=>a _ _ r) (λd xs r=>a _ _ r) λd ob v r=>a _ _ r;simp_all<;>lia
end
section
variable {P:Program}{w:World}{K:Frag}{mg:SV}{base:Heap}
theorem bM.fnL {x:Str}{st:Stmt}{N ps:LS}{k:Nat}{g:FS}{h:Heap}(F:bM K x st)(X:K.In h)(G:h.Ns mainGlobals mg)(S:FnScope N ps (a8 st))
  (O:∀(kV doc pm:Value)(an:Option Addr)(cW ct:Value)(us:LU),us.length=ps.length->bindArgs (fnOf x x (eF st) (bC st) (a8 st) .none kV doc pm an cW ct) ⟨us,[]⟩=pure (ps.zip us))
  (hb:∀(f:Addr)(cW:Value)(A:Around)(outer:List PySem.Env)(s:Shared)(H:Hp)(E:XK),(∀c P,tabIn K x=some (c,P)->cW=.ref c)->cV k (A.deeper (envOfC x (a8 st) s.z f cW))->xx (oZ xE P w K mg base N x (a8 st) f cW A outer s H E).nox (bC st) g):
  Fn P w K mg base (k+1) x (ax g ps.length (N.length - ps.length)):=by
 obtain⟨f,fd,U,a⟩:=F;have o:=U;obtain⟨oc,od,kV,doc,pm,an,cW,ct,mM,rfl,n,p⟩:=o.ex;have hc:∀c P,tabIn K x=some (c,P)->cW=.ref c:=λc P e=>by
  unfold tabIn at e;simp only[a,n]at e;split at e
  .split at e
   .split at e
    .cases e;rfl
    .cases e
   .cases e
  .cases e
 have len:∀vs H Q E,KA K (ax g ps.length (N.length - ps.length)) vs H Q E->vs.length=ps.length:=λvs H Q E h=>by
  obtain⟨B,ds,d,b,j,i,e,q⟩:=h;unfold ax at e;split at e
  .rename_i hl;rw[i.length];exact hl
  simp_all
 refine⟨f,_,ps,NN n p S len λA outer s H vs Q E hr h=>⟨_,sU.nox (hb f cW A outer s H E hc hr),?_⟩,mg_of X G a,U.kp,U.binds O⟩;have M:=len vs H Q E h;obtain⟨B,ds,d,b,j,i,e,q⟩:=h;unfold ax at e;rw[if_pos (by rw[<-i.length];exact M)]at e;have l:=xM (N:=N) j.1 j.2 i;rw[M]at l;split at e
 .rename_i d' b' m;cases e
  exact⟨B,H,_,_,⟨B,l⟩,m,λv H' N' r t u=>q v H' N' r t u⟩
 .rename_i ρ' m;cases e
  exact⟨B,H,_,_,⟨B,l⟩,m,λy H' ⟨N',s'⟩=>q .non H' N' s'.ext .non V9⟩
 simp_all
end
inductive jO (X:Cx)(N':List Str)(scope:Scope)(cl:List (Str×Addr)):Nat->List Nat->Prop where
 |nil {j:Nat}(h:N'.length=j):jO X N' scope cl j []
 |cons {j i:Nat}{r:List Nat}{x:Str}(h1:N'[j]? = some x) (h2:X.N[i]? = some x) (h3:X.env.kindOf x=some .cell\/X.env.kindOf x=some .free)
   (h4:scope.names.lookup x=some .free) (h5:cl.lookup x=X.env.cells.lookup x) (t:jO X N' scope cl (j+1) r):jO X N' scope cl j (i::r)
theorem jO.len:∀ {j:Nat}{cap:LN},jO X N' scope cl j cap->N'.length=j+cap.length
 |_,_,.nil h=>by rw[h];rfl
 |j,i::r,.cons _ _ _ _ _ t=>by rw[t.len,vC];lia
theorem jO.get:∀ {j:Nat}{cap:LN}{k i:Nat},jO X N' scope cl j cap->cap[k]? = some i->∃x,N'[j+k]? = some x/\X.N[i]? = some x/\(X.env.kindOf x=some .cell\/X.env.kindOf x=some .free) /\
  scope.names.lookup x=some .free/\cl.lookup x=X.env.cells.lookup x
 |_,_,_,_,.nil _,e=>by simp at e
 |j,_,0,_,.cons h1 h2 h3 h4 h5 _,e=>by simp at e;subst e;exact⟨_,h1,h2,h3,h4,h5⟩
 |j,_,k+1,i,.cons _ _ _ _ _ t,e=>by
  obtain⟨x,q,r⟩:=t.get (by simpa using e);exact⟨x,N9,r⟩
noncomputable abbrev y4 (X:Cx)(N':LS)(scope:Scope)(cl:List (Str×Addr))(q:Str)(A:Around)(f c:Addr)(s:Shared)(H:Hp):Cx:=
 { X with A:=A.deeper (envX q scope s.z f (.ref c) cl),N:=N',s₀:=s,H₀:=H,env:=envX q scope s.z f (.ref c) cl,outer:=X.stack,stack:=envX q scope s.z f (.ref c) cl::X.stack,ex:=[],fn:=λ_=>false,calm:=true,pn:=[],xe:=λ_ _=>False }
structure LamSc (X:Cx)(scope:Scope)(cl:List (Str×Addr))(y:Str):Prop where
 clos:closureFor scope X.env=pure cl
 nocell:∀z∈scope.names,z.2≠.cell
 kind:scope.kind=.function
 co:scope.isCoroutine=false
 gen:scope.isGenerator=false
 par:scope.names.lookup y=some .local
 sub:∀x c,cl.lookup x=some c->X.env.cells.lookup x=some c
 has:∀x,scope.names.lookup x=some .free->∃c,cl.lookup x=some c
theorem UB (h1:∀z∈scope.names,z.2≠.cell)(h2:scope.kind=.function)(h3:scope.isCoroutine=false)(M:scope.isGenerator=false)(hp:scope.names.lookup y=some .local)
  (O:(scope.names.all λz=>!(z.2 == NameKind.free) || (X.env.cells.lookup z.1).isSome)=true):LamSc X scope (cZ scope.names X.env.cells []) y:=by
 have h4:∀z∈scope.names,z.2=.free->(X.env.cells.lookup z.1).isSome=true:=λz hz e=>by
  grind
 exact⟨t6 _ [] h4,h1,h2,h3,M,hp,λx c e=>lG _ [] (λy d q=>by cases q) e,λx h=>by
  have:=lH _ [] (fO h) (h4 _ (fO h) rr);exact uT this⟩
section
variable {X:Cx}{af:AO}{σ:St}{H:Hp}{s:Shared}{A:Around}{N':LS}{scope:Scope}{cl:List (Str×Addr)}{q y:Str}{cap:LN}
theorem Mf (S:LamSc X scope cl y)(t:N'[0]? = some y)(cp:jO X N' scope cl 1 cap)(I:Inv X af σ H s)(B:A.frames=some X.stack)(hh:A.handled=none)(r:aG v u)
  (C:h₁.Ns s.z (λx=>[(y,u)].reverse.lookup x)) (hk:∀b o,s.heap.get? b=some o->h₁.get? b=some o):
  Inv (y4 X N' scope cl q A f c s H) [] (some v::xK 0 cap σ) H { s with heap:=h₁,toks:=tk }:=by
 have M:∀b:Addr,b∉(y4 X N' scope cl q A f c s H).ex:=λb z=>absurd (show b∈([]:List Addr)from z) V9;refine⟨⟨I.ok.mod,S.kind,rr,rr,vT _,λx z d g e2=>I.ok.inj x z d (S.sub _ _ g) (S.sub _ _ e2),λx hx=>?_,(λx d e=>by cases e),λ_=>hh,Around.frames_deeper B,.inr ⟨rr,rr⟩,λb z=>absurd z (M b),I.bs,vR I.ok.bsz I.sz,λb _ _=>M b,λb z=>absurd z (M b),I.stack,I.stkFree⟩,
  rr,I.bare,Un.kept hk,⟨_,C,λi x l g e2 G=>?_⟩,λx d e=>?_,I.hok.fresh (vT _),λx d e=>I.freeC x d (S.sub _ _ e),λp hp=>absurd (show p∈([]:AO)from hp) V9,I.hok.kept hk,?_⟩
 .have hx':=hx;rcases hx' with hx'|hx'
  .exact absurd rr (S.nocell _ (fO hx'))
  .exact S.has x hx'
 .cases i with
  |zero=>
   have U:=g;rw[t]at U;cases U;have O:=by simpa using e2
   cases O
   exact⟨u,r,.inl ⟨S.par,V9⟩⟩
  |succ k=>
   have O:=by simpa using e2
   obtain⟨k',h,J,g1,a⟩:=vk O;have:k=k':=N9
   subst this;obtain⟨n,n1,n2,n3,n4,n5⟩:=cp.get g1;have:n=x:=by
    lia
   subst this;have j:σ[h]? = some (some l):=by
    cases z:σ[h]? with
    |none=>rw[z]at a;cases a
    |some w=>rw[z]at a;cases w with
     |none=>cases a
     |some w=>cases a;rfl
   obtain⟨m,_,hl⟩:=I.loc;obtain⟨D,ru,E⟩:=hl h n l n2 j (by
    rcases n3 with n3|n3
    .exact .inr (.inl n3)
    .exact .inr (.inr n3))
   refine⟨D,ru,.inr ⟨.inr n4,?_⟩⟩;rcases E with⟨l1,_⟩|⟨_,d,l2,F⟩
   .lia
   .obtain⟨ob,ho,hd⟩:=F;exact⟨d,by rw[n5];exact l2,ob,hk _ _ ho,hd⟩
 .obtain⟨w,ob,ho,hd⟩:=I.cell x d (S.sub _ _ e);exact⟨w,ob,hk _ _ ho,hd⟩
 .have:=cp.len;unfold xK;rw[this];simp;lia
theorem Mg (S:LamSc X scope cl y)(l:N'[0]? = some y)(cp:jO X N' scope cl 1 cap)(I:Inv X af σ H s)
  (m:A.frames=some X.stack) (hh:A.handled=none) (M:A.depth<recursionLimit) (n:GL H f q params body scope cl)
  (O:∀pm c a u,bindArgs (kla_fn "<lambda>" q params body scope cl pm (.ref c) a) ⟨[u],[]⟩=pure [(y,u)])
  (hb:∀(f c:Addr)(s:Shared)(H:Hp),JE (y4 X N' scope cl q A f c s H) body fb)
  (rep:dR X.K B σ ρ) (p:aD B H) (r:aG v u) (i:Is X.K B v d) (e:fb (some (d,false)::cm 0 cap ρ)=some (d',b')) (x:Fin X.K B H d' b' Q):
  wpAny (model X.prog X.w) A (call (.ref f) [u]) (EP X af σ Q) (λ_ _=>False) s:=by
 obtain⟨pm,c,a,T,oc,V,C,t,hf,hc,hd,hv⟩:=n;have ho:=(I.hok f _ hf).1;have D:=(I.hok c _ hc).1;refine wpAny_call (codeAny_mono (R:=λr s'=>CR xE X.stack X.prog X.w H s Q (λ_ _ _=>False) r s') ?_ λr s' hq=>?_)
 .refine kla_callFunE M ho rr S.co S.gen rr ⟨c,oc,C,t,rr,D,hd,hv⟩ ?_;rw[O];refine wY (wpAny_newFunctionEnv S.nocell (λz hz=>by rw[uS hz];exact S.par) (λk E g=>⟨I.nolimit.fresh _ g,?_⟩) S.kind);have U:=λb o e=>g.extBut b o (vS (vX e)) (vZ _ e);have J:=Mf (f:=f) (c:=c) (q:=q) (tk:=s.toks+1) S l cp I m hh r E U;refine kla_codeExpr (wpAny_mono (hb f c s H [] _ _ H Q J ⟨B,_,d',b',p,⟨rep.tb,λj F G z=>?_⟩,e,x⟩) (λw s' hw=>?_) λ_ _ z=>z.elim)
  .cases j with
   |zero=>
    simp_all
   |succ j=>
    obtain⟨w,h1,h2⟩:=(rep.caps ).at' j F G (by simpa using z);simp_all
  .obtain⟨L,H',h,N,P⟩:=hw;exact⟨L,H',h.os,h.bare,h.base,h.hok,N,P⟩
 .cases r with
  |error e=>exact False.elim hq
  |ok fl=>
   cases fl with
   |ret w=>exact I.after hq
   |next=>exact False.elim hq
   |brk=>exact False.elim hq
   |cont=>exact False.elim hq
end
end DL
namespace DL
open PySem PySem.Spec PySem.W PyProof.Rows L2
section
variable {X:Cx}{af:AO}{σ:St}{H:Hp}{s:Shared}{h':Heap}{t':Nat}
theorem nq (I:Inv X ((p,o)::af) σ H s):∀x c,X.env.cells.lookup x=some c->c≠p:=λx c e z=>by
 have M:=I.pin _ (mY _ mX);obtain⟨v,ob,ho,hd⟩:=I.cell x c e;simp_all
theorem jt (I:Inv X (p::af) σ H s):Inv X af σ H s:=I.pins_of λq hq=>I.pin q (mY _ (mZ _ hq))
theorem fW (I:Inv X ((p,o)::af) σ H s)(h0:X.s₀.z<=p)(hp:∀q∈X.pn++af,q.1≠p)(k:∀b u,b≠p->s.heap.get? b=some u->h'.get? b=some u)(O:h'.get? p=some o')(U:∀v,o'.data≠.cell v):
  Inv X ((p,o')::af) σ H { s with heap:=h',toks:=t' }:=by
 have M:=I.pin _ (mY _ mX);have J:=(jt I).turned (t':=t') k M.2.1 M.2.2.1 (.inr h0) (nq I) hp;refine J.pins_of λq hq=>?_;rcases vP hq with rfl|hq
 .simp_all
 .exact J.pin q (mY _ hq)
theorem p7 (I:Inv X af σ H s)(k:∀b u,s.heap.get? b=some u->h'.get? b=some u)(hs:s.z<=p)(M:h'.get? p=some o)(O:∀v,o.data≠.cell v):Inv X ((p,o)::af) σ H { s with heap:=h',toks:=t' }:=by
 have J:=I.kept (t':=t') k;refine J.pins_of λq hq=>?_;rcases vP hq with rfl|hq
 .exact⟨M,I.hok.fresh hs,ne_of_gt (vQ I.lt hs),I.nofs hs,O⟩
 .exact J.pin q (mY _ hq)
theorem Mh (I:Inv X ((p,o)::af) σ H s)(h0:X.s₀.z<=p)(hp:∀q∈X.pn++af,q.1≠p)(k:∀b u,b≠p->s.heap.get? b=some u->h'.get? b=some u)(a:∃u,h'.get? p=some u)
  (new:bc X.prog X.w (upd H p ob) h' p ob):Inv X af σ (upd H p ob) { s with heap:=h',toks:=t' }:=by
 have M:=I.pin (p,o) (mY _ mX);have hn:=M.2.1;have cs:=nq I;refine(jt I).step (g':=s.gens) (d':=s.drawn) (ch:=[p]) (λb hb=>?_) (λb u _ _ hc e _=>k b u (λz=>hc (by simp[z])) e) (λb u _ _ hc e _=>⟨u.slots,k b u (λz=>hc (by simp[z])) e⟩) (λb u hc _ n=>by simp_all[a6])
  (λb u hc e=>⟨u,k b u (λz=>hc (by simp[z])) e⟩) (λb xs e=>by rw[a6 (aL e hn)];exact e) (λb u w e=>by rw[a6 (aL e hn)];exact e) (λb q e=>by rw[a6 (aL e hn)];exact e) (λm hm=>?_) (λb u e=>?_) I.bare
 .have z:b=p:=by simpa using hb
  subst z;exact⟨.inr h0,M.2.2.1,cs,hp⟩
 .obtain⟨O,es,U,ho,r⟩:=hm;exact⟨O,es,U,k _ O (λz=>M.2.2.1 z.symm) ho,r⟩
 .by_cases z:b=p
  .simp_all[aq]
  .rw[a6 z]at e;refine(I.hok b u e).stay (λc v hc q=>k c v ?_ q) (λc q=>?_) (λc xs q=>?_) λc w xs q=>?_
   .lia
   .rw[a6 (aL q hn)];exact q
   .rw[a6 (aL q hn)];exact q
   .rw[a6 (aL q hn)];exact q
end
def BS (X:Cx)(A:Around)(σ:St)(M:Value)(B O:Hp)(kf:D->Option D):Prop:=
 ∀(af:AO)(s:Shared)(H N:Hp)(v:V)(u:Value)(d d':D),Inv X af σ H s->aD O H->aD B N->aD N H->Is X.K N v d->aG v u->kf d=some d' ->
  wpAny (model X.prog X.w) A (call M [u]) (EP X af σ λU H'=>∃N',Ext N N' H H'/\Is X.K N' U d') (λ_ _=>False) s
def JK (X:Cx)(A:Around)(e:Expr)(kf:Env->D->Option D):Prop:=∀(af:AO)(s:Shared)(σ:St)(H B:Hp)(ρ:Env)(Q:QV)(E:QV),Inv X af σ H s->aD B H->dR X.K B σ ρ ->
 (∀O M s1,Inv X af σ M s1->aD H M->BS X A σ (.ref O) B M (kf ρ)->Q (.ref O) s1)->wq X (eval e X.env) Q E s
section
variable {X:Cx}{A:Around}
@[simp] def y6 (cap:LN)(M:FE):Env->D->Option D:=λρ d=>(M (some (d,false)::cm 0 cap ρ)).map (·.1)
theorem Q0 (hx:x∈jl)(L:y0 X.K x)(hc:∀c P,tabIn X.K x=some (c,P)->X.env.code=.ref c)(hq:X.env.qual ++ "<lambda>" = sy x)
  (O:defaultsOf params X.env=([],[])) (S:LamSc X scope (cZ scope.names X.env.cells []) y) (b:N'[0]? = some y) (cp:jO X N' scope (cZ scope.names X.env.cells []) 1 cap) (g:A.frames=X.A.frames) (hr:cV (k+1) A)
  (M:∀pm c U u,bindArgs (kla_fn "<lambda>" (sy x) params body scope (cZ scope.names X.env.cells []) pm (.ref c) U) ⟨[u],[]⟩=pure [(y,u)])
  (hb:∀(f c:Addr)(s:Shared)(H:Hp),cV k (y4 X N' scope (cZ scope.names X.env.cells []) (sy x) A f c s H).A->JE (y4 X N' scope (cZ scope.names X.env.cells []) (sy x) A f c s H) body fb):JK X A (.Lambda params body scope pos) (y6 cap fb):=by
 intro af s σ H B ρ Q E I h rep i;refine GN hx L hc hq O S.clos I (rep.tb.mono h) λf j s1 l m n=>i f j s1 l m ?_;intro t s' H' N v u d d' a m1 m2 o iv r e;obtain⟨⟨d2,b2⟩,p,e2⟩:=oY e;cases e2
 exact Mg S b cp a (g.trans a.ok.frames) hr.hd hr.depth (n.mono m1) M (λf c s H=>hb f c s H (hr.deeper _)) (rep.mono m2) o r iv p λw H2 N2 q i2 _=>⟨N2,q,i2⟩
@[simp] noncomputable def Ed (g:LD->OB):Env->D->Option D:=λ_ d=>(g [d]).map (·.1)
theorem NX (F:Fn X.prog X.w X.K X.mg X.base k x g)(hr:cV k A)(f:A.frames=X.A.frames)(h:Gl X x)(O:(x == ("__debug__" : Str))=false):JK X A (.Name x p) (Ed g):=by
 intro af s σ H B ρ Q E I n rep i;obtain⟨ad,fd,ps,b,hm,hk,hb⟩:=F.ex;refine uA I h hm ?_ O;refine i ad H s I (.refl H) ?_;intro U s' H' N v u d d' a m1 m2 j iv r e;obtain⟨⟨d2,b2⟩,l,e2⟩:=oY e;cases e2
 have sp:KA _ g _ H' (λc H2=>∃N',Ext N N' H' H2/\Is _ N' c d2) (λ_ _ _=>False):=⟨N,[d],d2,b2,⟨j,rep.tb.mono m2⟩,.cons iv .nil,l,λc H2 N2 m i2 _=>⟨N2,m,i2⟩⟩;have hl:[u].length=ps.length:=by have:=b.len _ _ _ _ sp;simp_all
 have M:=a.env0;have bb:=hb s' [u] a.kIn (by simpa using hl);refine wpAny_call (codeAny_mono (b.run A _ s' H' _ _ _ _ _ hr ⟨f.trans M.frames,M.mod,M.bs,M.bsz,M.funs,M.frf,M.hok,M.bare⟩ bb (.cons r .nil) sp) λr s' hq=>?_);cases r with
 |error e=>exact False.elim hq
 |ok fl=>
  cases fl with
  |ret w=>exact a.after hq
  |next=>exact False.elim hq
  |brk=>exact False.elim hq
  |cont=>exact False.elim hq
end
noncomputable def ju (f:D->Option D):LD->Option LD
 |[]=>some []
 |d::ds=>(f d).bind λx=>(ju f ds).map (x :: ·)
theorem lS:∀ {ds ks:LD},ju f ds=some ks->ks.length=ds.length
 |[],_,h=>by simp_all[ju]
 |d::ds,_,h=>by
  obtain⟨a,h1,h⟩:=oX h;obtain⟨r,h2,h⟩:=oY h;subst h;simp[lS h2]
theorem qw:∀ {ds ks:LD},ju f ds=some ks->∀ {i:Nat}{d:D},ds[i]? = some d->∃k,ks[i]? = some k/\f d=some k
 |[],_,h,i,d,e=>by simp at e
 |d::ds,_,h,0,e,q=>by
  obtain⟨a,h1,h⟩:=oX h;obtain⟨r,h2,h⟩:=oY h;grind
 |d::ds,_,h,i+1,e,q=>by
  obtain⟨a,h1,h⟩:=oX h;obtain⟨r,h2,h⟩:=oY h;subst h;obtain⟨k,M,O⟩:=qw h2 (by simpa using q);simp_all
structure KK (X:Cx)(A:Around)(kd:List D->Option (List (List At)))(ok:List (List At)->Bool):Prop where
 len:∀ {ds:List D}{ks:List (List At)},kd ds=some ks->ks.length=ds.length
 ask:∀ {af:List (Addr×Obj)}{σ:St}{H:Hp}{s:Shared}(_:Inv X af σ H s) {ys:List V}{ds:List D}{ks:List (List At)}{its:List Value},aF ys its->IsL X.K H ys ds->kd ds=some ks->ok ks=true->cr ks=true ->
  (0<ks.length->∀ {E:Value->Shared->Prop}{Q:SortKind->Shared->Prop},Q (tuples' true) s->wpAny (model X.prog X.w) A (keyKind' its.toArray) Q E s) /\
  ∀(i j:Nat)(C:Bool->Shared->Prop)(s1:Shared),i<ks.length->j<ks.length->s1=s->(∀s',s'=s->C (qk (zM ks) i j) s')->kas_ask X.prog X.w A (tuples' true) its i j C s1
theorem Q1:KK X A da c7:=⟨fE,λI _ _ _ _ r i e hf hc=>have hp:=lR I r i e;⟨λhn _ _ q=>yv hp hf hn q,BP hc hp⟩⟩
section
variable {X:Cx}{af:AO}{σ:St}{s:Shared}
theorem tP (r:aG x u):∀ {vs:LV}{us:LU},aF vs us->aF (vs++[x]) (us++[u])
 |_,_,.nil=>.cons r .nil
 |_,_,.cons h t=>.cons h (tP r t)
theorem cw:∀v,(Obj.mk c od (.seq its n) sl).data≠.cell v:=λv z=>by cases z
theorem A5
  (I:Inv X ((a,seqObj "list" its.toArray n)::af) σ H s) (h0:X.s₀.z<=a) (hp:∀q∈X.pn++af,q.1≠a) (KJ:BS X A σ qv B H kf) (o:aF vs its) (iv:IsL X.K B vs ds) (sB:aD B H)
  (M:KK X A kd ok) (V:ju kf ds=some jc) (ek:kd jc=some ks) (hc:cr ks=true) (hf:ok ks=true) (zO:its.length<64)
  (h:∀(p:Array Nat)(s':Shared)(H' N:Hp),mL its.length p->Up (zM ks) p its.length->Inv X af σ (upd H' a (.lst (p.toList.map λi=>vs.getD i .non))) s'->Ext B N H H'->H' a=none->P (.done (.ret .none)) s'):
  wpAny (model X.prog X.w) A (ksk_tree a qv false) P E s:=by
 have m:=I.pin (a,seqObj "list" its.toArray n) (mY _ mX)
 have Fc:vs.length=its.length:=o.length
 have RX:ds.length=vs.length:=iv.length.symm
 have hkd:jc.length=ds.length:=lS V
 have hks:ks.length=jc.length:=M.len ek
 have hz:its.length<=sizeLine:=by rw[sizeLine_eq];lia
 have hna:H a=none:=m.2.1
 obtain⟨U,W⟩:∃U,(s.heap.update a (Obj.mapSeq λ_=>(#[]:AV))).get? a=some (seqObj "list" #[] U):=⟨_,get?_update_seq m.1 λ_=>#[]⟩
 have u1:=vW s.heap a (Obj.mapSeq λ_=>(#[]:AV))
 have I1:=fW (t':=s.toks) I h0 hp (λb u n q=>(u1.2 b n).trans q) W cw
 let h2:Heap:=(s.heap.update a (Obj.mapSeq λ_=>(#[]:AV))).push (seqObj "tuple" its.toArray 0)
 have t:Inv X ((a,seqObj "list" #[] U)::af) σ H { s with heap:=h2 }:=I1.kept (t':=s.toks) λb u q=>vZ _ q
 let kS:Addr:=h2.objs.size
 have I3:Inv X ((kS,seqObj "list" #[] 0)::(a,seqObj "list" #[] U)::af) σ H { s with heap:=h2.push (seqObj "list" #[] 0) }:=p7 (s:={ s with heap:=h2 }) (t':=s.toks) t (λb u q=>vZ _ q) (vT _) (vY _ rr) cw
 have k0:X.s₀.z<=kS:=t.sz
 have kp:∀q∈X.pn++((a,seqObj "list" #[] U)::af),q.1≠kS:=λq hq=>vS (vX (t.pin q hq).1)
 unfold ksk_tree
 refine wX (listItems_at m.1 rr ?_)
 refine wX (listUpdate_at m.1 rr ?_ (by simpa using hz) (uM _))
 refine wX (seqEpoch_at W rr ?_)
 refine wX (wpAny_newTuple ?_ (by simp_all))
 refine wX (wpAny_newList ?_ (uM _))
 refine wpAny_holding ?_
 show wpAny (model X.prog X.w) A (ksk_rest a qv false its.toArray U (.ref kS)) P E { s with heap:=h2.push (seqObj "list" #[] 0) }
 unfold ksk_rest
 refine wX (wpAny_rule ?_)
 rw[List.forIn_toArray]
 refine wX (ksk_fold (λi s'=>∃(H' N:Hp)(kA:AV)(e:Nat)(a7:LV),Inv X ((kS,seqObj "list" kA e)::(a,seqObj "list" #[] U)::af) σ H' s'/\Ext B N H H'/\aF a7 kA.toList/\IsL X.K N a7 (jc.take i)) its 0 _
  ⟨H,B,#[],0,[],I3,.refl sB,.nil,by simpa using IsL.nil⟩ ?step ?done)
 case step=>
  rintro j u s' hu ⟨H',N,kA,e,a7,J,c,rk,ik⟩
  simp only[Nat.zero_add]at ik |-
  have hj:j<its.length:=(vV hu).1
  obtain⟨d,hd⟩:∃d,ds[j]? = some d:=⟨_,vU N9⟩
  obtain⟨v,hv,VX⟩:=iv.get hd
  obtain⟨kd,WE,YA⟩:=qw V hd
  obtain⟨u',Y,ru⟩:=o.get hv
  rw[hu]at Y;cases Y
  have kl:kA.size=j:=by
   have z1:=rk.length
   have z2:=ik.length
   simp_all<;>lia
  refine wX (wpAny_attempt (wpAny_mono (KJ _ s' H' N v u d kd J c.hh c.bn c.nh (VX.mono c.bn) ru YA) (λw x hw=>?_) λ_ _ hF=>hF.elim))
  obtain⟨v',y,Z,rv',N',x2,i2⟩:=hw
  have f:=Z.pin (kS,seqObj "list" kA e) (mY _ mX)
  obtain⟨c2,Fb⟩:∃c2,(x.heap.update kS (Obj.mapSeq (·.push w))).get? kS=some (seqObj "list" (kA.push w) c2):=⟨_,get?_update_seq f.1 (·.push w)⟩
  have u2:=vW x.heap kS (Obj.mapSeq (·.push w))
  refine wX (listUpdate_at f.1 rr ?_ (by rw[sizeLine_eq];lia) (vR (le_of_eq (Array.size_push ..)) (by rw[sizeLine_eq];lia)))
  refine wY ⟨rr,y,N',kA.push w,c2,a7++[v'],fW (t':=x.toks) Z k0 kp (λb q n z=>(u2.2 b n).trans z) Fb cw,c.trans x2,?_,?_⟩
  .simp_all[tP]
  .rw[take_add_one,WE];exact(ik.mono x2.bn).append (.cons i2 .nil)
 case done=>
  rintro s' ⟨H',N,kA,e,a7,J,c,rk,ik⟩
  have g:IsL X.K N a7 jc:=by
   grind
  have f:=J.pin (kS,seqObj "list" kA e) (mY _ mX)
  have D:=J.pin (a,seqObj "list" #[] U) (mY _ (mZ _ mX))
  have XU:H' a=none:=D.2.1
  have kz:kA.toList.length=its.length:=by rw[<-rk.length,g.length];lia
  have k:kA.size=its.length:=by simp_all
  refine wX (listItems_at f.1 rr ?_)
  have l:=M.ask J rk (g.mono c.nh) ek hf hc
  -- the end of the sort,for a permutation p
  have NE:∀(st:SortSt)(p:Array Nat),arrOf st=p.map (kas_item (kA.toList.toArray.zip its.toArray))->failedOf st=none->mL its.length p->Up (zM ks) p its.length ->
    wpAny (model X.prog X.w) A (ksk_tail a false U (.ref kS) st) P E s':=λst p ea ef ap up=>by
   have eo:(arrOf st).map (·.2)=List.toArray (p.toList.map λi=>its.getD i Value.none):=kat_snds kz ea
   have Bn:∀i∈p.toList,i<vs.length:=λi hi=>by
    have:=mem_range.mp (ap.perm.mem_iff.mp hi)
    simp_all
   obtain⟨c3,F⟩:∃c3,(s'.heap.update kS (Obj.mapSeq λ_=>(#[]:AV))).get? kS=some (seqObj "list" #[] c3):=⟨_,get?_update_seq f.1 λ_=>#[]⟩
   have u3:=vW s'.heap kS (Obj.mapSeq λ_=>(#[]:AV))
   have J3:=jt (fW (t':=s'.toks) J k0 kp (λb q n z=>(u3.2 b n).trans z) F cw)
   have L:=J3.pin (a,seqObj "list" #[] U) (mY _ mX)
   obtain⟨R,YC⟩:∃R,((s'.heap.update kS (Obj.mapSeq λ_=>(#[]:AV))).update a (Obj.mapSeq λ_=>(arrOf st).map (·.2))).get? a=some (seqObj "list" ((arrOf st).map (·.2)) R):=⟨_,get?_update_seq L.1 λ_=>(arrOf st).map (·.2)⟩
   have u4:=vW (s'.heap.update kS (Obj.mapSeq λ_=>(#[]:AV))) a (Obj.mapSeq λ_=>(arrOf st).map (·.2))
   have so:((arrOf st).map (·.2)).size=its.length:=by rw[eo];simp only[vG,vH,vF,ap.size]
   unfold ksk_tail
   try dsimp only
   refine wX (listUpdate_at f.1 rr ?_ (by rw[k,sizeLine_eq];lia) (uM _))
   refine wX (wpAny_letGo ?_)
   refine wX (seqEpoch_at L.1 rr ?_)
   refine wX (listUpdate_at L.1 rr ?_ (uM _) N9)
   rw[ef]
   simp only[bne_self_eq_false,uU,if_false]
   refine wY (h p _ H' N ap up (Mh (s:={ s' with heap:=s'.heap.update kS (Obj.mapSeq λ_=>(#[]:AV)) }) (t':=s'.toks) J3 h0 hp (λb q n z=>(u4.2 b n).trans z) ⟨_,YC⟩ ?_) c XU)
   refine⟨by rw[vH,vF,ap.size];exact hz,p.toList.map λi=>its.getD i Value.none,R,np o p.toList Bn,?_⟩
   rw[<-eo];exact YC
  unfold ksk_end
  try dsimp only
  simp only[uU,if_false]
  have S:kA=kA.toList.toArray:=V9
  by_cases O:its.toArray.size<2
  .rw[if_pos O,if_pos O]
   refine wX (wY ?_)
   rw[StateT.run_pure]
   refine wX (wY ?_)
   have Y1:its.length<2:=by simpa using O
   refine NE _ (List.toArray (List.range its.length)) ?_ rr ⟨V9,V9⟩ ?_
   .show kA.zip its.toArray=_
    have:=kas_range (kA.toList.toArray.zip its.toArray)
    rw[show(kA.toList.toArray.zip its.toArray).size=its.length by simp[k]]at this
    rw[this]
   .intro i j hij hj
    grind
  .rw[if_neg O,if_neg O]
   have YD:2<=its.length:=by simp at O;lia
   rw[S]
   refine wX (l.1 N9 ?_)
   obtain⟨p,r1,r2,r3⟩:=yt (n:=its.length) (rk:=zM ks) N9
   refine wX (wpAny_mono (kat_run (E:=E) (ks:=kA.toList) (vs:=its) (κ:=tuples' true) (s:=s') (Q:=λT s2=>s2=s'/\arrOf T=p.map (kas_item (kA.toList.toArray.zip its.toArray))/\failedOf T=none)
    (G:=λp' s2=>p'=p/\s2=s') kz YD zO (λp' T s2 _ e2 e3 e4=>by
     lia) (Run.wp (λs2=>s2=s') (λi j C s2 hi hj e hC=>l.2 i j C s2 N9 N9 e hC) r1 rr λs2 e=>⟨rr,e⟩)) (λr s2 hr=>?_) λ_ _ z=>z)
   grind
end
theorem y7 {α M:Type}{f:α->M}:∀ {l:List α},(l.map f).Nodup->l.Nodup
 |[],_=>nodup_nil
 |a::l,h=>by
  rw[uX,nodup_cons]at h;exact nodup_cons.mpr ⟨λz=>h.1 (uR ⟨a,z,rr⟩),y7 h.2⟩
def hU (ks:List (List At))(ds:LD):LD:=(cL (λp:List At×D=>bV p.1) (ks.zip ds)).map (·.2)
theorem GO {α U:Type}(d:α)(e:U):∀ {O:List α}{M:List U},O.length=M.length->(List.range M.length).map (λi=>(O.getD i d,M.getD i e))=O.zip M:=λ{O M} h=>by
 apply ext_getElem?;intro i;by_cases hi:i<M.length
 .simp_all
 .simp[hi,h]
theorem Mi {α U:Type}{M:List α}{O:List U}(nd:M.Nodup){a:α}{b c:U}(h1:(a,b)∈M.zip O)(h2:(a,c)∈M.zip O):b=c:=by
 obtain⟨i,hi⟩:=mem_iff_getElem?.mp h1;obtain⟨j,hj⟩:=mem_iff_getElem?.mp h2;grind[List.getElem_inj]
theorem A6 {ds:LD}{ks:List (List At)}{p:Array Nat}(hl:ks.length=ds.length)(hc:cr ks=true)(nd:ks.Nodup)(ap:mL ds.length p)(O:Up (zM ks) p ds.length):p.toList.map (λi=>ds.getD i .non)=hU ks ds:=by
 unfold hU;have e:p.toList.map (λi=>(ks.getD i [],ds.getD i .non))=cL (λp:List At×D=>bV p.1) (ks.zip ds):=by
  apply gZ
  .intro x hx y hy e;have mx:=(of_mem_zip hx).1;have g:=(of_mem_zip hy).1;grind[jW,Mi]
  .have:=ap.perm.map (λi=>(ks.getD i [],ds.getD i D.non));rw[GO [] D.non hl]at this;exact this
  .rw[List.pairwise_iff_getElem];intro i j hi hj M;have hsz:=ap.size;have U:i<p.size:=by simpa using hi
   have a:j<p.size:=by simpa using hj
   have:=O i j (le_of_lt M) N9;unfold bK zM at this;have b:p.getD i 0=p[i]:=by simp_all
   have c:p.getD j 0=p[j]:=by simp_all
   have h:=ap.lt (k:=j) N9;have d:ks.getD (p.getD j 0) []∈ks:=by
    simp_all
   have f:¬bV (ks.getD (p.getD j 0) [])<bV (ks.getD (p.getD i 0) []):=λz=>by
    have:=wl (cs:=ks.map bV) (uR ⟨_,d,rr⟩) z;lia
   simp only[List.getElem_map,Array.getElem_toList];unfold GD;rw[<-b,<-c];exact f
 rw[<-e,uO];rfl
@[simp] def wt (kd:LD->Option (List (List At)))(ok:List (List At)->Bool)(f:FE)(kf:Env->D->Option D):FE:=λρ=>(f ρ).bind λx=>match x.1 with
 |.lst ds=>(ju (kf ρ) ds).bind λM=>(kd M).bind λks=>if ks.length<64/\cr ks=true/\ok ks=true/\(ks.map bV).Nodup then some (.lst (hU ks ds),true)else none
 |_=>none
@[simp] abbrev wu:FE->(Env->D->Option D)->FE:=wt da c7
section
variable {X:Cx}{e ke:Expr}{p pos kp:Pos}
theorem NY {kd:LD->Option (List (List At))}{ok:List (List At)->Bool}(M:KK X X.A.in1.in1 kd ok){f:FE}{kf:Env->D->Option D}(hm:X.mg "sorted" = none)(he:JE X e f)(hk:JK X X.A.in1.in1 ke kf)(G:Gl X "sorted")
  (L:starEach [e] X.env=[(false,eval e X.env)]) (P:backTo pos (starEach [e] X.env)=(false,eval e X.env)::backTo pos (starEach [] X.env)) (U:(backTo pos (starEach [e] X.env)).any (·.1)=false)
  (R:(backToKw pos (keywordEach [⟨some "key",ke,kp⟩] X.env)).all (·.1.isSome)=true) (S:(backToKw pos (keywordEach [⟨some "key",ke,kp⟩] X.env)).any (·.1.isNone)=false)
  (T:(backToKw pos (keywordEach [⟨some "key",ke,kp⟩] X.env)).filterMap (·.1)=[("key" : Str)]):
  JE X (.Call (.Name "sorted" p) [e] [⟨some "key",ke,kp⟩] pos) (wt kd ok f kf):=by
 intro af s σ H Q I h;obtain⟨B,ρ,d,b,V,rep,O,q⟩:=h;obtain⟨⟨xd,xb⟩,ex,O⟩:=oX O;cases xd<;>try (cases O;done)
 rename_i ds;obtain⟨t,x,O⟩:=oX O;obtain⟨ks,ek,O⟩:=oX O;split at O
 .rename_i hh;obtain⟨zO,hc,hf,nd⟩:=hh;cases O
  refine wpAny_Call_Name_kw (fK I G hm (u:=.builtin "sorted") rr ?_);refine callWith_kw (bJ ((cF he dX L) pos af s σ H (λvs g=>∃v N,vs=[v]/\Ext B N H g/\Is X.K N v (.lst ds)) I ⟨B,ρ,_,_,V,rep,ex,λv g N a i1 _=>⟨v,N,rr,a,i1⟩⟩) λus s1 W=>?_) P U R S;obtain⟨Y,g,Z,r1,v,N,rfl,a,i1⟩:=W;obtain⟨u,rfl,ru⟩:=fM r1;refine kws_cons (hk af s1 σ g N ρ _ _ Z a.nh (rep.mono a.bn) λk H2 s2 j m2 KJ=>kws_nil ?_);rw[T];show wpAny _ _ (call (.builtin "sorted") [u] [(("key" : Str),.ref k)]) _ _ _;cases i1
  rename_i l vs hq n;cases ru
  have y:aD N H2:=a.nh.trans m2;obtain⟨its,z,pl,hz⟩:=j.list (y.seq hq);have Fc:vs.length=its.length:=z.length;have RX:ds.length=vs.length:=n.length.symm;have hkd:t.length=ds.length:=lS x;have hks:ks.length=t.length:=M.len ek;have YI:its.length<64:=N9
  refine call_function_entry_kw kind_sorted plain_sorted entry_sorted (ksk_s1 _ _) ?_;unfold Builtin.«sorted»;refine wX (m:=checkCount "sorted" 1 1 _) (wY (wX (collect_list pl.isList (wX (wpAny_newList ?_ (by rw[sizeLine_eq];lia))) (by rw[sizeLine_eq];lia))));let h1:Heap:=(s2.heap.push (seqObj "list" #[] 0)).update s2.z (Obj.mapSeq (· ++ its.toArray));have hsz:h1.objs.size=s2.z+1:=by grind[Heap.size_update,size_push']
  have VZ:∀b o,s2.heap.get? b=some o->h1.get? b=some o:=λb o q=>(Heap.get?_update_ne _ _ _ _ (vS (vX q))).trans (vZ _ q);have C:Inv X ((h1.objs.size,seqObj "list" its.toArray 0)::af) σ H2 { s2 with heap:=h1.push (seqObj "list" its.toArray 0) } :=
   p7 (t':=s2.toks) j (λb u q=>vZ _ (VZ b u q)) (by rw[hsz];exact le_succ _) (vY _ rr) cw
  have p3:=C.pin (h1.objs.size,seqObj "list" its.toArray 0) (mY _ mX);show wpAny (model X.prog X.w) X.A.in1 (holding [.ref h1.objs.size] (call (.builtin "list.sort") [.ref h1.objs.size] [(("key" : Str),.ref k)])>>=_) _ _ { s2 with heap:=h1.push (seqObj "list" its.toArray 0) };refine wX (wpAny_holding (wpAny_call_entry_kw slot_list_sort ⟨_,p3.1,rr⟩ entry_list_sort ?_ (ksk_l1 _ _)));show wpAny (model X.prog X.w) X.A.in1.in1 (Builtin.«list.sort» ⟨[.ref h1.objs.size],[(Str.ofString "key",.ref k)]⟩) _ _ _;rw[ksk_t1];refine A5 C (vR j.sz (by rw[hsz];exact le_succ _)) (λq hq=>by rw[hsz];exact vS (lt_succ_of_lt (vX (j.pin q hq).1))) KJ z n y M x ek hc hf YI λpm s' H' N' ap E J c hn=>⟨_,rr,wY ⟨_,rr,?_⟩⟩;have U:its.length=ds.length:=N9
  rw[U]at ap E;have er:=A6 N9 hc (y7 nd) ap E;have Bn:∀i∈pm.toList,i<ds.length:=λi hi=>mem_range.mp (ap.perm.mem_iff.mp hi);have r:=qr (n.mono c.bn) pm.toList Bn;rw[er]at r;have F:Ext B N' H H':=(a.trans (.grow a.nh m2)).trans c;have hN:N' h1.objs.size=none:=c.nh.free hn;have x5:=F.trans (Ext.laid (o:=.lst (pm.toList.map λi=>vs.getD i .non)) c.nh hn);exact⟨.ref h1.objs.size,_,J,rr,q _ _ _ x5 (.lst (dW.of aq) (r.mono (Ext.laid (o:=.lst (pm.toList.map λi=>vs.getD i .non)) c.nh hn).bn)) λ_=>⟨_,_,_,rr,rr,F.hh.free hn,aq,r.mono (Ext.laid (o:=.lst (pm.toList.map λi=>vs.getD i .non)) c.nh hn).bn⟩⟩
 .cases O
end
noncomputable def cmP {f:String->CmpOp->Builtin}(_:f "__lt__" .Lt=Builtin.«tuple.__lt__»):=f
def Zo:String->CmpOp->Builtin:=cmP rr
section
variable {prog:Program}{w:World}{A:Around}{E:QV}{s:Shared}{op:CmpOp}
theorem dB.type (h:dB s.heap xs v):s.TypeIs v "tuple":=by
 obtain⟨a,o,its,n,rfl,ho,hc,_⟩:=h;exact⟨o,ho,hc⟩
inductive GeW (prog:Program)(w:World)(A:Around)(s:Shared)(op:CmpOp)(dv r:Bool):List (Value×Value)->Prop
 |nil (h:dv=r):GeW prog w A s op dv r []
 |eq {u v:Value}{l:List (Value×Value)}(h:SeqAt.EqAt A s u v true) (t:GeW prog w A s op dv r l):GeW prog w A s op dv r ((u,v)::l)
 |ne {u v:Value}{l:List (Value×Value)}(h:SeqAt.EqAt A s u v false) (t:∀(Q E:Value->Shared->Prop),Q (.bool r) s->wpAny (model prog w) A (richCompare op u v) Q E s):GeW prog w A s op dv r ((u,v)::l)
theorem Mj {nm:String}(O:s.TypeIs (.ref b) "tuple")(U:s.heap.get? a=some oa)(c:oa.data=.seq its na)(d:s.heap.get? b=some ob)(g:ob.data=.seq Du nb)
  (W:GeW prog w A s op dv r (its.toList.zip Du.toList)) (hz:Builtin.Tuple.tupleCompareSizes op its.size Du.size=.bool dv) (e:op=.Lt\/op=.Gt\/op=.GtE) (q:P (.done (.ret (.bool r))) s):wpAny (model prog w) A (Zo nm op ⟨[.ref a,.ref b],[]⟩) P E s:=by
 show wpAny _ _ (isInstance _ _>>=_) _ _ s;refine wX (wpAny_isInstance O isSubtype_tuple_tuple ?_);refine wX (wpAny_tupleItemsOf U c ?_);refine wX (wpAny_tupleItemsOf d g ?_);refine wX ?_;refine wpAny_forIn_list _ (λag z s'=>z.1=none/\s'=s/\GeW _ w A s op _ r ag) _ ?_ ?_ _ _ ⟨rr,rr,W⟩
 .rintro⟨u,v⟩ ag z s' ⟨hz,rfl,W⟩;cases W with
  |eq h t=>
   refine wX (h _ _ _ _ ?_);simp_all[wY]
  |ne h t=>
   refine wX (h _ _ _ _ ?_);have t:=t (λv M=>v=.bool r/\M=s') E ⟨rr,rr⟩;rcases e with rfl|rfl|rfl<;>exact wX (wpAny_rule (wX (wpAny_mono t (λv M hv=>by obtain⟨rfl,rfl⟩:=hv;exact wX (wY (wY (wY q)))) λ_ _ z=>z)))
 .rintro⟨i,j⟩ s' ⟨f,rfl,W⟩;subst f;refine wY ?_;cases W with
  |nil h=>
   simp_all
structure CmR (prog:Program)(w:World)(A:Around)(s:Shared)(op:CmpOp)(R:List At->List At->Bool->Prop)(fl:Nat->Nat->Bool):Prop where
 ei:∀ {a xs ys r},R (.i a::xs) (.i a::ys) r->R xs ys r
 es:∀ {a xs ys r},R (.s a::xs) (.s a::ys) r->R xs ys r
 ni:∀ {a c xs ys r},a≠c->R (.i a::xs) (.i c::ys) r->∀t u (Q E:Value->Shared->Prop),Q (.bool r) s->wpAny (model prog w) A (richCompare op (.int a t) (.int c u)) Q E s
 ns:∀ {a c xs ys r},a≠c->R (.s a::xs) (.s c::ys) r->∀t u (Q E:Value->Shared->Prop),Q (.bool r) s->wpAny (model prog w) A (richCompare op (.str a t) (.str c u)) Q E s
 mx:∀ {a c xs ys r},¬R (.i a::xs) (.s c::ys) r/\¬R (.s c::xs) (.i a::ys) r
 en:∀ {xs r},(R [] xs r->fl 0 xs.length=r)/\(R xs [] r->fl xs.length 0=r)
 fs:∀ {m n},fl (m+1) (n+1)=fl m n
theorem GP (C:CmR prog w A s op R fl)(xs ys:List At)(its M:LU)(U:Paired zL xs its)(b:Paired zL ys M)(h:R xs ys r):GeW prog w A s op (fl xs.length ys.length) r (its.zip M):=by
 induction U generalizing ys M with
 |nil=>exact .nil (C.en.1 h)
 |@cons x v xs its U f d=>
  cases b with
  |nil=>exact .nil (C.en.2 h)
  |@cons y u ys M b O=>
   cases x with
   |i a=>
    cases y with
    |s _=>exact absurd h C.mx.1
    |i c=>
     obtain⟨t,rfl⟩:=U;obtain⟨u,rfl⟩:=b;have he:=SeqAt.EqAt.int_int (A:=A) (s:=s) a t c u;rw[vC,vC,C.fs];by_cases e:a=c
     .subst e;rw[show(a == a)=true by simp]at he;exact .eq he (d ys M O (C.ei h))
     .rw[show(a == c)=false by simp[e]]at he;exact .ne he (C.ni e h t u)
   |s a=>
    cases y with
    |i _=>exact absurd h C.mx.2
    |s c=>
     obtain⟨t,rfl⟩:=U;obtain⟨u,rfl⟩:=b;have he:=SeqAt.EqAt.str_str (A:=A) (s:=s) a t c u;rw[vC,vC,C.fs];by_cases e:a=c
     .subst e;rw[show(a == a)=true by simp]at he;exact .eq he (d ys M O (C.es h))
     .rw[show(a == c)=false by simp[e]]at he;exact .ne he (C.ns e h t u)
theorem UC:CmR prog w A s .Lt (λxs ys r=>aR xs ys=some r) (λm n=>decide (m<n)) where
 ei h:=by rwa [aR,if_pos rr]at h
 es h:=by rwa [aR,if_pos rr]at h
 ni e h _ _ _ _ q:=by rw[aR,if_neg e]at h;cases h;exact PyProof.Rows.lt_int q
 ns e h _ _ _ _ q:=by rw[aR,if_neg e]at h;cases h;exact PySem.P.lt_str q
 mx:=by simp[aR]
 en:=λ{xs}=>by cases xs<;>simp[aR]
 fs:=V9
theorem UD:CmR prog w A s .Gt (λxs ys r=>aR ys xs=some r) (λm n=>decide (n<m)) where
 ei h:=by rwa [aR,if_pos rr]at h
 es h:=by rwa [aR,if_pos rr]at h
 ni e h _ _ _ _ q:=by rw[aR,if_neg (Ne.symm e)]at h;cases h;exact PyProof.Rows.gt_int q
 ns e h _ _ _ _ q:=by rw[aR,if_neg (Ne.symm e)]at h;cases h;exact PySem.P.gt_str q
 mx:=by simp[aR]
 en:=λ{xs}=>by cases xs<;>simp[aR]
 fs:=V9
theorem GQ (hx:dB s.heap xs (.ref a)):∃o its n,s.heap.get? a=some o/\o.data=.seq its n/\Paired zL xs its.toList/\xs.length=its.size:=by
 obtain⟨M,o,its,n,e,ho,hc,hd,p⟩:=hx;cases e
 exact⟨o,its,n,ho,hd,p,by exact dr p⟩
theorem NZ {nm:String}(C:CmR prog w A s op R fl)(hz:∀m n,Builtin.Tuple.tupleCompareSizes op m n=.bool (fl m n))(M:op=.Lt\/op=.Gt\/op=.GtE)(hx:dB s.heap xs (.ref a))(hy:dB s.heap ys (.ref b))(h:R xs ys r)(q:P (.done (.ret (.bool r))) s):wpAny (model prog w) A (Zo nm op ⟨[.ref a,.ref b],[]⟩) P E s:=by
 have hb:=hy.type;obtain⟨_,_,_,ho,hd,p,l1⟩:=GQ hx;obtain⟨_,_,_,O,U,c,l2⟩:=GQ hy;exact Mj hb ho hd O U (GP C _ _ _ _ p c h) (by rw[l1,l2];exact hz _ _) M q
theorem GS (hx:dB s.heap xs x)(hy:dB s.heap ys y)(h:aR xs ys=some r)(hu:A.units<cLine)(q:Q (.bool r) s):wpAny (model prog w) A (richCompare .Lt x y) Q E s:=by
 have M:=hx.type;have ty:=hy.type;obtain⟨a,_,_,_,rfl,_⟩:=id hx;obtain⟨b,_,_,_,rfl,_⟩:=id hy;exact wpAny_richCompare_same_room M ty slot_tuple_lt (wpAny_call_entry slot_tuple_lt M PySem.F.entry_tuple_lt (NZ UC (λ_ _=>rr) (.inl rr) hx hy h ⟨_,rr,(λe=>nomatch e),q⟩) (PySem.F.args_tuple_lt_2 _ _)) hu
theorem UE (hx:dB s.heap xs x)(hy:dB s.heap ys y)(h:aR ys xs=some r)(hu:A.units<cLine)(q:Q (.bool r) s):wpAny (model prog w) A (richCompare .Gt x y) Q E s:=by
 have M:=hx.type;have ty:=hy.type;obtain⟨a,_,_,_,rfl,_⟩:=id hx;obtain⟨b,_,_,_,rfl,_⟩:=id hy;exact wpAny_richCompare_same_room M ty slot_tuple_gt (wpAny_call_entry slot_tuple_gt M PySem.F.entry_tuple_gt (NZ UD (λ_ _=>rr) (.inr (.inl rr)) hx hy h ⟨_,rr,(λe=>nomatch e),q⟩) (PySem.F.args_tuple_gt_2 _ _)) hu
end
def oy:List At×D->List (List At×D)->D
 |b,[]=>b.2
 |b,x::r=>if aR b.1 x.1=some true then oy x r else oy b r
def o0:List At×D->List (List At×D)->D
 |b,[]=>b.2
 |b,x::r=>if aR x.1 b.1=some true then o0 x r else o0 b r
noncomputable def mmP {f:String->CmpOp->Builtin}(_:f "max" .Gt=Builtin.«max.loop»):=f
def mmL:String->CmpOp->Builtin:=mmP rr
noncomputable def mmQ {f:String->Builtin}(_:f "max" = Builtin.«max»):=f
def mmF:String->Builtin:=mmQ rr
structure MM (nm lp:String)(ns:Str)(op:CmpOp)(lt:List At->List At->Option Bool)(go:List At×D->List (List At×D)->D):Prop where
 hn:(toString nm++toString ".loop" : String)=lp
 en:entryFor table lp=some (mmL nm op)
 pl:plainId lp=true
 k2:builtinKind nm=none
 p2:plainId nm=true
 e2:entryFor table nm=some (mmF nm)
 ka:∀a v:Value,argsOk nm ⟨[a],[(Str.ofString "key",v)]⟩
 bt:bootBuiltins ns=some (.builtin nm)
 n1:ns ≠ "__name__"
 n2:(ns == ("__debug__" : Str))=false
 g0:∀b,go b []=b.2
 g1:∀b x r,go b (x::r)=if lt b.1 x.1=some true then go x r else go b r
 cg:∀ {ks:List (List At)},cr ks=true->∀ {a b},a∈ks->b∈ks->∃r,lt a b=some r
 rc:∀ {prog:Program}{w:World}{A:Around}{E:Value->Shared->Prop}{s:Shared}{xs ys:List At}{x y:Value}{r:Bool}{Q:Value->Shared->Prop},dB s.heap xs x->dB s.heap ys y->lt ys xs=some r->A.units<cLine->Q (.bool r) s->wpAny (model prog w) A (richCompare op x y) Q E s
theorem mmx:MM "max" "max.loop" "max" .Gt aR oy:=
 ⟨Z9,PySem.F.entry_max_loop,PySem.F.plain_max_loop,PySem.F.kind_max,PySem.F.plain_max,PySem.F.entry_max,λ_ _=>by kernel_rfl,rr,Z9,Z9,λ_=>rr,λ_ _ _=>rr,λh _ _ a b=>⟨_,fD h a b⟩,UE⟩
theorem mmn:MM "min" "min.loop" "min" .Lt (λa b=>aR b a) o0:=
 ⟨Z9,PySem.F.entry_min_loop,PySem.F.plain_min_loop,PySem.F.kind_min,PySem.F.plain_min,PySem.F.entry_min,λ_ _=>by kernel_rfl,rr,Z9,Z9,λ_=>rr,λ_ _ _=>rr,λh _ _ a b=>⟨_,fD h b a⟩,GS⟩
section
variable {X:Cx}{af:AO}{σ:St}
theorem A7 (J:Inv X ((M,O)::(U,o2)::af) σ H' s'):Inv X ((U,o2)::(M,O)::af) σ H' s':=
 J.pins_of λq hq=>J.pin q (by
  grind)
theorem qx (hp:∀q∈X.pn++af,q.1≠a)(h:S≠a):∀q∈X.pn++((S,o)::af),q.1≠a:=λq hq=>by
 grind
theorem p8 (I:Inv X af σ H s)(r:aG v u)(i:Is X.K H v d)(e:nn d=some k):dB s.heap k u:=by
 have:=lR I (.cons r .nil) (.cons i .nil) (by simp [da,e];rfl);cases this;assumption
inductive MK (X:Cx)(af:List (Addr×Obj))(σ:St)(S It l:Addr)(o:Obj)(j:Nat)(N H:Hp)(y:List At×D)(u ku:Value)(s:Shared):Prop
 |mk (H2 N2:Hp) (v kv:V) (kd:D) (oI:Obj) (J:Inv X ((S,o)::(It,oI)::af) σ H2 s) (u9:s.heap.IsListIter It l (j+1)) (x:Ext N N2 H H2) (ru:aG v u) (iv:Is X.K N2 v y.2) (rk:aG kv ku) (ik:Is X.K N2 kv kd) (ek:nn kd=some y.1)
theorem GU {E:QV}{It:Addr}(hh:X.A.handled=none)(k:BS X X.A.in1 σ (.ref qa) B H1 kf)(hq:dW X.K B l vs)(iv:IsL X.K B vs ds)(m:ju kf ds=some jc)(ek:da jc=some ks)(p:X.s₀.z<=It)(t:∀q∈X.pn++((S,o)::af),q.1≠It)
  (x:l≠It) (hz:(ks.zip ds)[j]? = some y) (I:Inv X ((S,o)::(It,oI)::af) σ H s) (u9:s.heap.IsListIter It l j) (M:Ext B N H1 H):
  wpAny (model X.prog X.w) X.A.in1 (pyNext (.ref It)) (λr s1=>∃u,r=some u/\wpAny (model X.prog X.w) X.A.in1 (call (.ref qa) [u]) (MK X af σ S It l o j N H y u) (λ_ _=>False) s1) E s:=by
 obtain⟨its,C,pl,_⟩:=I.list ((M.bn.trans M.nh).seq hq);obtain⟨hk,hd⟩:=getElem?_zip_eq_some.mp hz;obtain⟨v,hv,U⟩:=iv.get hd;obtain⟨kd,d,D⟩:=qw m hd;obtain⟨u,hu,ru⟩:=C.get hv;have F:=by
  have:=hJ ek (i:=j) (vV d).1;rw[getD_eq_getElem?_getD,d,getD_eq_getElem?_getD,hk]at this;exact this
 refine(Walks.list (A:=X.A.in1) hh It l x _).item j _ _ _ (by simpa using(vV hu).1) ⟨u9,pl.isList⟩ λQ h' R G a J=>?_;have f:=by simpa using G
 rw[hu]at f;cases f;obtain⟨O,L,P,c⟩:=id a.1;exact⟨u,rr,bJ (k _ _ H N v u y.2 kd (A7 (fW (A7 I) p t (λb o n e=>J b o (by simpa using n) e) L (λv z=>by rw[c]at z;cases z))) M.hh M.bn M.nh (U.mono M.bn) ru D) λku s2 ⟨kv,H2,g,rk,N2,h,ik⟩=>
  ⟨H2,N2,v,kv,kd,O,g,⟨O,(g.pin (It,O) (mY _ (mZ _ mX))).1,P,c⟩,h,ru,U.mono (M.bn.trans h.bn),rk,ik,F⟩⟩
theorem Mk {nm lp:String}{ns:Str}{op:CmpOp}{lt:List At->List At->Option Bool}{go:List At×D->List (List At×D)->D}(M:MM nm lp ns op lt go){F:Value}{l S It:Addr}{vs:LV}{ds Y:LD}{ks:List (List At)}{B G:Hp}{kf:D->Option D}{d0:D}{R:Result->Shared->Prop}(hh:X.A.handled=none)(hu:X.A.in1.units<cLine)(KJ:BS X X.A.in1 σ F B G kf)(J:∃a,F=.ref a)(hq:dW X.K B l vs)(iv:IsL X.K B vs ds)
  (Z:ju kf ds=some Y) (ek:da Y=some ks) (hc:cr ks=true) (S0:X.s₀.z<=S) (I0:X.s₀.z<=It) (Wa:∀q∈X.pn++af,q.1≠S) (Sa:∀q∈X.pn++af,q.1≠It) (C:S≠It) (Sc:S≠l) (Sb:l≠It)
  (hR:∀(s':Shared)(H' N:Hp)(v:V)(u:Value),Inv X af σ H' s'->Ext B N G H'->aG v u->Is X.K N v d0->R (.ok (.ret u)) s'):
  ∀(r j:Nat)(s:Shared)(H N:Hp)(U O:Value)(h m:V)(i p:D)(k:List At)(c:Nat)(oI:Obj),vs.length - j=r->j<=vs.length->Inv X ((S,seqObj "list" #[U,O] c)::(It,oI)::af) σ H s->s.heap.IsListIter It l j->Ext B N G H ->
   aG h U->Is X.K N h i->aG m O->Is X.K N m p->nn p=some k->k∈ks->go (k,i) ((ks.zip ds).drop j)=d0 ->
   codeAny (model X.prog X.w) X.A (.builtin lp ⟨[.ref It,F,.ref S],[]⟩) R s:=by
 obtain⟨qa,rfl⟩:=J;intro r;induction r with
 |zero=>
  intro j s H N U O h m i p k c oI hr hj I u9 d L i1 P i2 f mk hd;have Q:=I.pin (S,seqObj "list" #[U,O] c) (mY _ mX);have sB:aD B H:=d.bn.trans d.nh;obtain⟨its,rv,pl,_⟩:=I.list (sB.seq hq);have hl:=pl.isList;have W:=Walks.list (prog:=X.prog) (w:=X.w) (A:=X.A.in1) hh It l Sb its.toArray;have hsz:its.toArray.size=its.length:=vG ..;have Fc:vs.length=its.length:=rv.length;have RX:ds.length=its.length:=by rw[<-iv.length];exact rv.length
  have WD:i=d0:=by
   rw[List.drop_of_length_le (by rw[length_zip];lia)]at hd;rw[M.g0]at hd;exact hd
  subst WD;refine codeAny_builtin M.en ?_;rw[Around.under_plainId M.pl _];show wpAny _ X.A.in1 (seqItems? (.ref S)>>=_) _ _ _;refine wX (wpAny_seqItems Q.1 rr ?_);show wpAny _ X.A.in1 (tryCatch (pyNext (.ref It)) _>>=_) _ _ _;refine wX (wpAny_tryCatch (W.done _ _ _ ⟨by grind,hl⟩ λh' VT ND=>?_));have J1:Inv X ((It,oI)::(S,seqObj "list" #[U,O] c)::af) σ H s:=A7 I;have YK:∀q∈X.pn++((S,seqObj "list" #[U,O] c)::af),q.1≠It:=qx Sa C;have J2:=
   (jt J1).turned (t':=VT) (λb o n e=>ND b o (by simpa using n) e) (J1.pin (It,oI) (mY _ mX)).2.1 (J1.pin (It,oI) (mY _ mX)).2.2.1 (.inr I0) (nq J1) YK
  have t:=J2.pin (S,seqObj "list" #[U,O] c) (mY _ mX);obtain⟨c2,Fb⟩:∃c2,(h'.update S (Obj.mapSeq λ_=>(#[]:AV))).get? S=some (seqObj "list" #[] c2):=⟨_,get?_update_seq t.1 λ_=>#[]⟩;have E:=vW h' S (Obj.mapSeq λ_=>(#[]:AV));show wpAny _ X.A.in1 (updateSeq S (λ_=>#[])>>=_) _ _ _;refine wX ?_;refine wpAny_updateSeq t.1 rr (wX (wpAny_letGo (wY ?_)));exact hR _ H N h U (jt (fW (t':=VT) J2 S0 Wa (λb o n e=>(E.2 b n).trans e) Fb cw)) d L i1
 |succ r ih=>
  intro j s H N U O h m i p k c oI hr hj I u9 d L i1 P i2 f mk hd;have oe:j<(ks.zip ds).length:=by rw[length_zip,fE ek,lS Z,<-iv.length];simp<;>lia
  have Q:=I.pin (S,seqObj "list" #[U,O] c) (mY _ mX);have hz:=vU oe;rw[List.drop_eq_getElem_cons oe,M.g1]at hd;generalize (ks.zip ds)[j]=y at hz hd;have hm:y.1∈ks:=vL (getElem?_zip_eq_some.mp hz).1;obtain⟨r,T⟩:=M.cg hc mk hm;refine codeAny_builtin M.en ?_;rw[Around.under_plainId M.pl _];show wpAny _ X.A.in1 (seqItems? (.ref S)>>=_) _ _ _;refine wX (wpAny_seqItems Q.1 rr ?_);show wpAny _ X.A.in1 (tryCatch (pyNext (.ref It)) _>>=_) _ _ _;refine wX (wpAny_tryCatch (bJ (GU hh KJ hq iv Z ek I0 (qx Sa C) Sb hz I u9 d) λ_ s1 ⟨u,e,h1⟩=>?_));subst e;refine wX (wpAny_tryCatch (wpAny_holding (wpAny_mono h1 (λku s2 ⟨H2,N2,v,kv,kd,WG,x,Wd,g,ru,VX,rk,ik,SO⟩=>?_) λ_ _ z=>z.elim)));have t1:=p8 x rk (ik.mono g.nh) SO;have t2:=p8 x P (i2.mono (g.bn.trans g.nh)) f;refine wX (wpAny_tryCatch (wpAny_holding (wX (M.rc t1 t2 T hu ?_))));refine wX (wpAny_holding (wpAny_truthy_bool ?_));refine wX (wpAny_letGo (wY ?_));cases r with
  |true=>
   rw[if_pos T]at hd;have E:=vW s2.heap S (Obj.mapSeq λ_=>#[u,ku]);simp only[if_true];have We:=x.pin (S,seqObj "list" #[U,O] c) (mY _ mX);refine wX (wpAny_updateSeq We.1 rr (wX (wpAny_letGo ?_)));rw[M.hn];obtain⟨o,g1,g2⟩:=Wd;exact wY ⟨plainId_quiet M.pl _,ih (j+1) _ H2 N2 u ku v kv y.2 kd y.1 _ WG N9 N9 (fW (t':=s2.toks) x S0 (qx Wa C.symm) (λb o n e=>(E.2 b n).trans e) (get?_update_seq We.1 λ_=>#[u,ku]) cw) ⟨o,(E.2 It C.symm).trans g1,g2⟩ (d.trans g) ru VX rk ik SO hm hd⟩
  |false=>
   rw[if_neg (by rw[T];simp)]at hd;simp only[uU,if_false];refine wX (wpAny_letGo ?_);rw[M.hn];exact wY ⟨plainId_quiet M.pl _,ih (j+1) _ H2 N2 U O h m i p k c WG N9 N9 x Wd (d.trans g) L (i1.mono g.bn) P (i2.mono g.bn) f mk hd⟩
end
@[simp] def Q2 (go:List At×D->List (List At×D)->D)(f:FE)(kf:Env->D->Option D):FE:=λρ=>(f ρ).bind λx=>match x.1 with
 |.lst ds=>(ju (kf ρ) ds).bind λM=>(da M).bind λks=>if cr ks=true then match ks.zip ds with
  |[]=>none
  |y::r=>some (go y r,false)
  else none
 |_=>none
@[simp] def BU:=Q2 oy
@[simp] def BV:=Q2 o0
section
variable {X:Cx}{e ke:Expr}{p pos kp:Pos}
theorem Oa {nm lp:String}{ns:Str}{op:CmpOp}{lt:List At->List At->Option Bool}{go:List At×D->List (List At×D)->D}(M:MM nm lp ns op lt go){f:FE}{kf:Env->D->Option D}{k:Nat}(hm:X.mg ns=none)(he:JE X e f)(hk:JK X X.A.in1 ke kf)(hr:cV k X.A)(Z:Gl X ns)
  (YE:starEach [e] X.env=[(false,eval e X.env)]) (YF:backTo pos (starEach [e] X.env)=(false,eval e X.env)::backTo pos (starEach [] X.env)) (Dt:(backTo pos (starEach [e] X.env)).any (·.1)=false)
  (K3:(backToKw pos (keywordEach [⟨some "key",ke,kp⟩] X.env)).all (·.1.isSome)=true) (YG:(backToKw pos (keywordEach [⟨some "key",ke,kp⟩] X.env)).any (·.1.isNone)=false)
  (YH:(backToKw pos (keywordEach [⟨some "key",ke,kp⟩] X.env)).filterMap (·.1)=[("key" : Str)]):
  JE X (.Call (.Name ns p) [e] [⟨some "key",ke,kp⟩] pos) (Q2 go f kf):=by
 intro af s σ H Q I h;obtain⟨B,ρ,d,b,sB,rep,O,q⟩:=h;obtain⟨⟨xd,xb⟩,ex,O⟩:=oX O;cases xd<;>try (cases O;done)
 rename_i ds;obtain⟨jc,w,O⟩:=oX O;obtain⟨ks,ek,O⟩:=oX O;split at O
 .rename_i hc;split at O
  .cases O
  .rename_i y ag j;cases O
   refine wpAny_Call_Name_kw (fK I Z hm M.bt ?_ M.n1 M.n2);refine callWith_kw (bJ ((cF he dX YE) pos af s σ H (λvs g=>∃v N,vs=[v]/\Ext B N H g/\Is X.K N v (.lst ds)) I ⟨B,ρ,_,_,sB,rep,ex,λv g N a i1 _=>⟨v,N,rr,a,i1⟩⟩) λus s1 hA=>?_) YF Dt K3 YG;obtain⟨vs1,g,I1,r1,v,N,rfl,a,i1⟩:=hA;obtain⟨u,rfl,ru⟩:=fM r1;refine kws_cons (hk af s1 σ g N ρ _ _ I1 a.nh (rep.mono a.bn) λm H2 s2 c m2 x=>kws_nil ?_);rw[YH];cases i1
   rename_i l vs hq r;cases ru
   have C:aD N H2:=a.nh.trans m2;obtain⟨its,rv,pl,hz⟩:=c.list (C.seq hq);have E:l<s2.z:=by
    obtain⟨ol,WB,_⟩:=pl.isList;exact vX WB
   have F:(ks.zip ds)[0]? = some y:=by rw[j];rfl
   have t:=vL (getElem?_zip_eq_some.mp F).1;refine kmk_tree M.k2 M.p2 M.e2 (M.ka _ _) ?_;refine wX (wpAny_of_eq (show Builtin.Builtins.bindParams nm ["key","default"] 0 ⟨[],[(Str.ofString "key",.ref m)]⟩=pure [some (.ref m),none]from rr) ?_);refine wX (wY ?_);refine wX (wpAny_pyIter_list pl.isList ?_);refine wX (wpAny_newList ?_ (uM _));rw[M.hn];let It:Addr:=s2.z;let oI:Obj:={ cls:=.type "list_iterator",data:=.fields #[.ref l,.int 0 0] };let S:Addr:=(s2.heap.push oI).objs.size;have i:S=s2.z+1:=size_push' ..;have U:S≠It:=by rw[i];exact ne_of_gt (Nat.lt_succ_self _)
   have J1:Inv X ((It,oI)::af) σ H2 { s2 with heap:=s2.heap.push oI }:=p7 (t':=s2.toks) c (λb u q=>vZ _ q) (vT _) (vY _ rr) (λv z=>by cases z);have J2:Inv X ((S,seqObj "list" #[] 0)::(It,oI)::af) σ H2 _:=p7 (s:={ s2 with heap:=s2.heap.push oI }) (t':=s2.toks) J1 (λb u q=>vZ _ q) (vT _) (vY _ rr) cw;have G:X.s₀.z<=It:=c.sz;have J:X.s₀.z<=S:=by rw[i];exact Nat.le_succ_of_le c.sz
   have L:∀q∈X.pn++af,q.1≠It:=λq hq=>vS (vX (c.pin q hq).1);have P:∀q∈X.pn++af,q.1≠S:=λq hq=>by rw[i];exact vS (lt_succ_of_lt (vX (c.pin q hq).1))
   have R:l≠It:=vS E;have Sc:S≠l:=by rw[i];exact ne_of_gt (lt_succ_of_lt E)
   have hh:X.A.handled=none:=hr.hd;have hu:X.A.in1.units<cLine:=by have:=hr.un;lia
   have pS:=J2.pin (S,seqObj "list" #[] 0) (mY _ mX);have pI:=J2.pin (It,oI) (mY _ (mZ _ mX));refine wY ⟨plainId_quiet M.pl _,?_⟩;refine codeAny_builtin M.en ?_;rw[Around.under_plainId M.pl _];refine wX (wpAny_seqItems pS.1 rr ?_);refine wX (wpAny_tryCatch (bJ (GU hh x hq r w ek G (qx L U) R F J2 ⟨oI,pI.1,rr,rr⟩ (.refl C)) λ_ s1 ⟨u,e,h1⟩=>?_));subst e;refine wX (wpAny_tryCatch (wpAny_holding (wpAny_mono h1 (λku T ⟨H3,N3,v,kv,kd,WG,V,⟨o,g1,g2⟩,x3,ru,VX,rk,ik,SO⟩=>?_) λ_ _ z=>z.elim)));have W:=V.pin (S,seqObj "list" #[] 0) (mY _ mX);have Y:=vW T.heap S (Obj.mapSeq λ_=>#[u,ku]);refine wX (wpAny_updateSeq W.1 rr ?_);rw[M.hn];have YM:1<=vs.length:=by
    have:=congrArg List.length j;rw[length_zip,vC,<-r.length]at this;grind
   exact wY ⟨plainId_quiet M.pl _,Mk M (S:=S) (It:=It) hh hu x ⟨m,rr⟩ hq r w ek hc J G P L U Sc R (λs' H' N' v' u' J' x' r' i'=>⟨v',H',J',r',q _ _ _ ((a.trans (.grow a.nh m2)).trans x') i' V9⟩) _ 1 _ H3 N3 u ku v kv y.2 kd y.1 _ WG rr YM
    (fW (t':=T.toks) V J (qx P U.symm) (λb o n e=>(Y.2 b n).trans e) (get?_update_seq W.1 λ_=>#[u,ku]) cw) ⟨o,(Y.2 It U.symm).trans g1,g2⟩ x3 ru VX rk ik SO t (by rw[j];rfl)⟩
 .cases O
end
section
variable {X:Cx}
@[simp] def WR:D->D->OB
 |.tup xs,.tup ys=>(iK xs).bind λM=>(iK ys).bind λbs=>(aR M bs).map λr=>(.bl r,false)
 |_,_=>none
theorem UF (hu:X.A.units+40<cLine):cj X (compareOp .Lt) (rD X.K WR):=by
 intro af s σ H x y v u Q I O U q;obtain⟨B,dx,dy,d,b,M,a,c,e,q⟩:=q;cases dx<;>try (simp at e)
 cases dy<;>try (simp at e)
 obtain⟨h,f,e⟩:=oX e;obtain⟨bs,e2,e⟩:=oX e;obtain⟨r,g,e⟩:=oY e;cases e
 exact GS (p8 I O (a.mono M) f) (p8 I U (c.mono M) e2) g N9 ⟨.bl r,H,I,rr,q.one M (.bl r)⟩
end
end DL
namespace DL
open PySem PySem.Spec PyProof.Rows L2
section
variable {X:Cx}
noncomputable def y8:D->D->OB
 |.tup xs,.tup ys=>if xs.isEmpty=true then some (.tup ys,false)else none
 |_,_=>none
theorem Ml:cj X (binaryOp .Add) (rD X.K y8):=by
 intro af s σ H x y v u Q I e f q;obtain⟨B,dx,dy,d,bb,U,g,i,M,q⟩:=q;cases g<;>try (cases M;done)
 cases i<;>try (cases M;done)
 rename_i l vs ds h hl c r es h' a;simp only[y8]at M;split at M
 .cases M
  cases e
  cases f
  obtain⟨its,j,k,_⟩:=I.tuple (aK U h);obtain⟨t,w,p2,_⟩:=I.tuple (aK U h');have he:its.toArray.isEmpty=true:=by
   have z:=hl.length;have e2:=j.length;simp_all
  obtain⟨⟨cls,dd,data,sl⟩,ho,hc,n,hd⟩:=id k;obtain⟨⟨A,m,data2,b⟩,O,o,n2,p⟩:=id p2;subst hc;subst hd;subst o;subst p;exact concat_meets ⟨_,ho,rr⟩ ⟨_,O,rr⟩ noFill_tuple_add seq_tuple_add slot_tuple_add entry_tuple_add (args_tuple_add_2 _ _)
   (tuple_addW0 l c _ _ n n2 dd m sl b he) ⟨ho,O,⟨.ref c,H,I,rr,q.one U (.tup h' a)⟩⟩
 simp_all
@[simp] noncomputable def o3:D->D->OB
 |.tup xs,.tup ys=>if xs.length+ys.length<=sizeLine then some (.tup (xs++ys),false)else none
 |_,_=>none
theorem Mm (xs ys:LD)(z:xs.length+ys.length<=sizeLine):PL Ak y8 (.tup xs) (.tup ys)=some (.tup (xs++ys),false):=by
 cases xs with
 |nil=>
  have:Ak (.tup []) (.tup ys)=none:=if_neg (λh=>by cases h.2);show(match Ak _ _ with|some z=>some z|none=>y8 _ _)=_;rw[this];rfl
 |cons a l=>
  have:Ak (.tup _) (.tup ys)=some _:=if_pos ⟨z,rr⟩;show(match Ak _ _ with|some z=>some z|none=>y8 _ _)=_;rw[this]
theorem Q3:cj X (binaryOp .Add) (rD X.K o3):=by
 refine gH (kW Gh Ml) λx y H Q q=>?_;obtain⟨B,dx,dy,d,bb,a,O,U,M,q⟩:=q;refine⟨B,dx,dy,d,bb,a,O,U,?_,q⟩;cases O<;>try (cases M)
 cases U<;>try (cases M)
 simp only[o3]at M;split at M
 .grind[Mm]
 .cases M
end
section
variable {X:Cx}
@[simp] def xx9:D->D->OB
 |d,.tup [.ty n,.ty m]=>if Aj d=true then none else if n = "list"/\m = "tuple" then some (.bl (gJ d == "list" || gJ d == "tuple"),false)else none
 |_,_=>none
@[simp] def BW:LD->OB
 |[d,e]=>xx9 d e
 |_=>none
theorem Ee (K:Frag)(d:D)(hd:∀n,d≠.ty n):PySem.W.kitAny K (.type (gJ d)) [.type "list",.type "tuple"]=some (gJ d == "list" || gJ d == "tuple"):=by
 obtain⟨_,_,_,k4,k5⟩:=Gd K d hd;unfold PySem.W.kitAny;rw[k4];cases gJ d == "list" with
 |true=>rfl
 |false=>
  unfold PySem.W.kitAny;rw[k5];cases gJ d == "tuple" with
  |true=>rfl
  |false=>rfl
theorem GV (I:Inv X af σ H s)(i:Is X.K H v d)(hd:∀n,d≠.ty n)(M:aG v u)(O:IsTup s.heap tp its.toArray)(e:PySem.W.kitAny X.K (.type (gJ d)) its=some b)(h:∀tk,Q (.bool b) { s with toks:=tk }):
  wpAny (model X.prog X.w) A (call (.builtin "isinstance") [u,.ref tp]) Q E s:=by
 obtain⟨⟨cls,dd,data,sl⟩,ho,hc,n,U⟩:=id O;subst hc;subst U;cases i with
 |non=>cases (show u=Value.none from M);exact PySem.W.kia_tup PySem.W.kitx_none I.kIn True.intro ho e (λz=>nomatch z) h
 |bl y=>cases (show u=Value.bool y from M);exact PySem.W.kia_tup PySem.W.kitx_bool I.kIn True.intro ho e (λz=>nomatch z) h
 |int i=>obtain⟨t,q⟩:=(show ∃t,u=Value.int i t from M);cases q;exact PySem.W.kia_tup PySem.W.kitx_int I.kIn True.intro ho e (λz=>nomatch z) h
 |str y=>obtain⟨t,q⟩:=(show ∃t,u=Value.str y t from M);cases q;exact PySem.W.kia_tup PySem.W.kitx_str I.kIn True.intro ho e (λz=>nomatch z) h
 |ty n=>exact absurd rr (hd n)
 |dk h1 _ _=>
  cases M
  obtain⟨_,_,_,vs,_,o,es,c,a,e2,_⟩:=(show bc X.prog X.w H s.heap _ (.dK _ _)from I.hok _ _ h1);exact PySem.W.kia_tup PySem.W.kitx_dict I.kIn ⟨o,a,e2.1⟩ ho e (λz=>nomatch z) h
 |dt h1 _ _=>
  cases M
  obtain⟨_,_,xs,_,o,es,c,a,e2,_⟩:=(show bc X.prog X.w H s.heap _ (.dT _)from I.hok _ _ h1);exact PySem.W.kia_tup PySem.W.kitx_dict I.kIn ⟨o,a,e2.1⟩ ho e (λz=>nomatch z) h
 |tup O _=>
  cases M
  obtain⟨its,_,⟨o,h1,h2,_⟩,_⟩:=I.tuple O;exact PySem.W.kia_tup PySem.W.kitx_tuple I.kIn ⟨o,h1,h2⟩ ho e (λz=>nomatch z) h
 |lst hl _=>
  cases M
  obtain⟨its,_,⟨o,n,h1,h2,_⟩,_⟩:=I.list hl;exact PySem.W.kia_tup PySem.W.kitx_list I.kIn ⟨o,h1,h2⟩ ho e (λz=>nomatch z) h
theorem Ef:bH X (.builtin "isinstance") (Ae X.K BW):=by
 intro af s σ H xs us Q I a q;obtain⟨B,ds,d,b,M,i,e,q⟩:=q;cases i with
 |nil=>cases e
 |@cons _ dx _ _ i1 i=>
  cases i with
  |nil=>cases e
  |cons i2 i=>
   cases i with
   |cons _ _=>cases e
   |nil=>
    cases i2<;>try (cases e)
    rename_i hs hl;cases hl with
    |nil=>cases e
    |cons c hl=>
     cases c<;>try (cases e)
     cases hl with
     |nil=>cases e
     |cons f hl=>
      cases f<;>try (cases e)
      cases hl with
      |cons _ _=>cases e
      |nil=>
       obtain⟨l,m,rfl,g,h⟩:=NK a;change(if _ then _ else _)=_ at e;split at e
       .cases e
       .rename_i j;have hd:∀n,dx≠.ty n:=λn z=>by subst z;exact j rr
        split at e
        .rename_i hh;obtain⟨rfl,rfl⟩:=hh;cases e
         cases h
         obtain⟨its,k,p,_⟩:=I.tuple (aK M hs);obtain⟨o,r,rfl,O,U⟩:=k.two;cases O
         cases U
         exact GV I (i1.mono M) hd g p (Ee X.K dx hd) λtk=>⟨.bl _,H,I.tok tk,rr,q.one M (.bl _)⟩
        .cases e
end
@[simp] noncomputable def kJ:D->Option di
 |.int i=>some (.inl i)
 |.str x=>some (.inr x)
 |_=>none
theorem tQ {K:Frag}{B:Hp}{v:V}{d:D}{k:di}(i:Is K B v d)(e:kJ d=some k):v=kV k:=by
 cases i<;>simp [kJ]at e<;>cases e<;>rfl
noncomputable def eU {κ:Type}[DecidableEq κ]:List κ->LD->κ->Option D
 |k'::ks,d::ds,k=>if k'=k then some d else eU ks ds k
 |_,_,_=>none
theorem wv {κ:Type}[DecidableEq κ]{K:Frag}{B:Hp}(k:κ):∀ {ks:List κ}{vs:LV}{ds:LD},ks.length=vs.length->IsL K B vs ds ->
  (∃v d,jj (ks.zip vs) k=some v/\eU ks ds k=some d/\Is K B v d)\/(jj (ks.zip vs) k=none/\eU ks ds k=none)
 |[],vs,ds,_,_=>.inr ⟨by cases vs<;>rfl,by cases ds<;>rfl⟩
 |k'::ks,[],_,h,_=>by simp at h
 |k'::ks,v::vs,_,h,.cons i is=>by
  rw[zip_cons_cons];unfold eU;by_cases e:k'=k
  .rw[if_pos e];exact .inl ⟨v,_,lC e,rr,i⟩
  .rw[if_neg e,lD e];exact wv k (by simpa using h) is
section
variable {X:Cx}{o e i:Expr}{pos:Pos}
@[simp] def UG:D->D->OB
 |.dk ks vs,y=>(kJ y).map λk=>((eU ks vs k).getD .non,false)
 |_,_=>none
theorem GW {bQ bq:Pos}{fo fe:FE}(hu:X.A.units+1<cLine)(ho:JE X o fo)(he:JE X e fe)(m:M1 X o "get" bQ e bq):JE X (.Call (.Attribute o "get" bQ) [e] [] bq) (f2 UG fo fe):=by
 refine PE.to (xI hu ho he m) λσ H Q q=>?_;obtain⟨B,ρ,d,bb,c,r,M,q⟩:=q;obtain⟨x,ex,M⟩:=oX M;obtain⟨y,f,M⟩:=oX M;refine⟨B,ρ,x.1,x.2,c,r,ex,λv l N1 U i1 n=>?_⟩;obtain⟨xd,p⟩:=x;cases i1 with
 |@dk a ks vs ds ob h hl hs=>
  obtain⟨k,hk,M⟩:=oY M;cases M
  refine⟨a,rr,.inl ⟨_,_,.inl (U.nh _ _ h)⟩,N1,ρ,y.1,y.2,U.nh,r.mono U.bn,f,λs H2 N2 O i2 _=>?_⟩;have hv:=tQ i2 hk;subst hv;refine⟨jj _ k,.inl ⟨_,k,_,.inl (O.nh _ _ (O.bn _ _ h)),rr,rr⟩,?_⟩;have g:=hs.mono O.bn;rcases wv k hl g with⟨v,d',b,e2,j⟩|⟨b,e2⟩
  .rw[b];rw[e2]at q;exact(q.into (U.trans O)).one O.nh j
  .rw[b];rw[e2]at q;exact(q.into (U.trans O)).one O.nh .non
 |_=>simp at M
@[simp] def ixK:D->D->OB
 |.dk ks vs,y=>(kJ y).bind λk=>(eU ks vs k).map λd=>(d,false)
 |_,_=>none
@[simp] def Zp:D->D->OB
 |y,.dk ks vs=>(kJ y).map λk=>(.bl (eU ks vs k).isSome,false)
 |_,_=>none
theorem Eg {κ:Type}[DecidableEq κ]{K:Frag}{B:Hp}{k:κ}{ks:List κ}{vs:LV}{ds:LD}(hl:ks.length=vs.length)(hs:IsL K B vs ds):(jj (ks.zip vs) k).isSome=(eU ks ds k).isSome:=by
 grind[wv]
end
noncomputable def f6 {κ:Type}[DecidableEq κ](ks:List κ)(k:κ):List κ:=if k∈ks then ks else ks++[k]
noncomputable def dc {κ α:Type}[DecidableEq κ](ks:List κ)(xs:List α)(k:κ)(x:α):List α:=if k∈ks then List.zipWith (λk' M=>if k'=k then x else M) ks xs else xs++[x]
theorem BX {κ:Type}[DecidableEq κ](k:κ):∀ {ks:List κ}{vs:LV},ks.length=vs.length->((ks.zip vs).any λkv=>decide (kv.1=k))=decide (k∈ks)
 |[],_,_=>by simp
 |k'::ks,[],h=>by simp at h
 |k'::ks,v::vs,h=>by
  have M:=BX k (by simpa using h);simp_all<;>lia
theorem BY {κ:Type}[DecidableEq κ](k:κ)(v:V):∀(ks:List κ)(vs:LV),(ks.zip vs).map (λkv=>if kv.1=k then (kv.1,v)else kv)=ks.zip (List.zipWith (λk' M=>if k'=k then v else M) ks vs)
 |[],_=>by simp
 |_::_,[]=>by simp
 |k'::ks,w::vs=>by
  rw[zip_cons_cons,uX,BY k v ks vs,List.zipWith_cons_cons,zip_cons_cons];lia
theorem p9 {κ:Type}[DecidableEq κ]{ks:List κ}{vs:LV}(hl:ks.length=vs.length)(k:κ)(v:V):mP (ks.zip vs) k v=(f6 ks k).zip (dc ks vs k v):=by
 unfold mP f6 dc;rw[BX k hl];by_cases h:k∈ks
 .rw[if_pos (xw h),if_pos h,if_pos h,BY]
 simp_all[List.zip_append]
theorem lU {κ α:Type}[DecidableEq κ]{ks:List κ}{xs:List α}(hl:ks.length=xs.length)(k:κ)(x:α):(f6 ks k).length=(dc ks xs k x).length:=by
 unfold f6 dc;split<;>simp[hl]
theorem IsL.zipWith {κ:Type}[DecidableEq κ]{K:Frag}{B:Hp}{k:κ}{v:V}{d:D}(i:Is K B v d):∀ {ks:List κ}{vs:LV}{ds:LD},IsL K B vs ds->IsL K B (List.zipWith (λk' M=>if k'=k then v else M) ks vs) (List.zipWith (λk' M=>if k'=k then d else M) ks ds)
 |[],_,_,_=>by simpa using IsL.nil
 |_::_,_,_,.nil=>by simpa using IsL.nil
 |k'::ks,_,_,.cons h t=>by
  rw[List.zipWith_cons_cons];refine .cons ?_ (IsL.zipWith i t);split<;>simp_all
theorem IsL.put {κ:Type}[DecidableEq κ]{K:Frag}{B:Hp}{k:κ}{v:V}{d:D}(i:Is K B v d){ks:List κ}{vs:LV}{ds:LD}(h:IsL K B vs ds):IsL K B (dc ks vs k v) (dc ks ds k d):=by
 unfold dc;split
 .exact h.zipWith i
 .exact h.append (.cons i .nil)
section
variable {K:Frag}{E:Ends}{σ:St}{H:Hp}
noncomputable def GX (i:Nat):FS:=λρ=>some (.nx (ρ.set i (some (.dk [] [],true))))
noncomputable def GY (i:Nat):FS:=λρ=>some (.nx (ρ.set i (some (.dt [] [],true))))
theorem cH.newBox (s:cH K B0 H0 N H σ ρ)(i:Nat)(hp:H p=none)(hb:∀C,Bx K C ob dd):cH K B0 H0 (upd N p ob) (upd H p ob) (σ.set i (some (.ref p))) (ρ.set i (some (dd,true))):=by
 have x:=Ext.laid (o:=ob) s.ext.nh hp;have s1:=s.grow x;have M:=s.ext.nh.free hp;have O:¬own σ ρ p:=λz=>by obtain⟨a,⟨q,_⟩,_⟩:=s.owned z;lia
 have c:aD _ (cR (upd N p ob) (λb=>own σ ρ b\/b=p)):=cY λb u e q=>⟨x.bn _ _ e,λz=>z.elim q λz=>by subst z;rw[M]at e;cases e⟩;refine s1.bindOwn aq (s.ext.hh.free hp) (λj e q z=>O ⟨j,e,q,z⟩) (λj e _ q=>?_) (λj e _ q=>?_) (hb _)
 .obtain⟨w,h1,h2⟩:=s.sh j e q;exact⟨w,h1,h2.mono c⟩
 .obtain⟨U,o',h1,h2,_,h4⟩:=s.ow j e q;exact⟨U,o',h1,x.bn _ _ h2,h4.mono c⟩
theorem GZ (q:lE K (GX i) E σ H):zQ F9 (gQ i) E σ H:=by
 obtain⟨B0,H0,ρ,r,⟨N,s⟩,e,p⟩:=q;cases e
 exact λa ob ha=>p _ _ ⟨_,s.newBox i ha λ_=>.dk (ks:=[]) rr .nil⟩
theorem Ha (q:lE K (GY i) E σ H):zQ FC (gQ i) E σ H:=by
 obtain⟨B0,H0,ρ,r,⟨N,s⟩,e,p⟩:=q;cases e
 exact λa ha=>p _ _ ⟨_,s.newBox i ha λ_=>.dt (ks:=[]) rr .nil⟩
def y9 (i:Nat)(O U:FE):FS:=λρ=>match ρ[i]? with
 |some (some (.dk ks vs,true))=>(U ρ).bind λv=>(O ρ).bind λk=>(kJ k.1).bind λM=>if aI v.1=true/\ks.length<sizeLine then some (.nx (ρ.set i (some (.dk (f6 ks M) (dc ks vs M v.1),true))))else none
 |_=>none
theorem Hb {i:Nat}{M O:FE}(q:lE K (y9 i M O) E σ H):Bz (Fh i) (tD K M) (tD K O) E σ H:=by
 obtain⟨B0,H0,ρ,r,⟨N,s⟩,e,p⟩:=q;unfold y9 at e;split at e
 .rename_i ks ds ei;obtain⟨v,b,e⟩:=oX e;obtain⟨k,ek,e⟩:=oX e;obtain⟨c,hk,e⟩:=oX e;split at e
  .rename_i hx;cases e
   refine⟨N,ρ,v.1,v.2,s.ext.nh,s.rep,b,λg h N1 d i1 _=>?_⟩;have s1:=s.grow d;obtain⟨a,o,h1,h2,h3,h4⟩:=s1.ow i _ ei;refine⟨.ref a,h1,N1,ρ,k.1,k.2,s1.ext.nh,s1.rep,ek,λj H2 N2 U i2 _=>?_⟩;have s2:=s1.grow U;have hv:=tQ i2 hk;subst hv;obtain⟨l,o',k1,k2,k3,k4⟩:=s2.ow i _ ei;rw[h1]at k1;cases k1
   cases k4 with
   |@dk ks vs ds hl h5 ob=>
    refine⟨a,rr,.inl ⟨_,c,_,s2.ext.nh _ _ k2,rr,?_,λf=>?_⟩⟩
    .rw[length_zip];lia
    .rw[p9 hl];exact p σ _ ⟨_,s2.writeB ei h1 (.dk (lU hl _ _) (h5.put (s2.flat (i1.mono U.bn) hx.1)))⟩
  .cases e
 simp_all
end
section
variable {X:Cx}{pos:Pos}{e k:Expr}
theorem Mn (M:X.N.Nodup)(hi:X.N[i]? = some x)(hx:K6 X.env.scope x)(hs:swapsWith (.Dict [] [] dp) (some (.Name x p)) pos.line X.env=pure false)
  (hf:X.fn x=true\/X.env.scope.names.lookup x=some .local):JS X (.Assign [.Name x p] (.Dict [] [] dp) pos) (GX i):=PS.to (uC M hi hx FD hs hf) λ_ _ _ q=>GZ q
theorem Mo (M:X.N.Nodup)(hi:X.N[i]? = some x)(hx:K6 X.env.scope x)(hs:swapsWith (.Dict [] [] dp) (some (.Name x p)) pos.line X.env=pure false)
  (hf:X.fn x=true\/X.env.scope.names.lookup x=some .local):JS X (.Assign [.Name x p] (.Dict [] [] dp) pos) (GY i):=PS.to (uC M hi hx FF hs hf) λ_ _ _ q=>Ha q
theorem Mp (hu:X.A.units+1<cLine)(hv:JE X e fv)(hk:JE X k fk)(U:X.N[i]? = some y)(M:Fg X.env.scope y)(hd:(y == ("__debug__" : Str))=false)
  (O:(y == ("__classdict__" : Str))=false) (hs:swapsWith e (some (.Subscript (.Name y py) k pt)) pos.line X.env=pure false):JS X (.Assign [.Subscript (.Name y py) k pt] e pos) (y9 i fk fv):=
 PS.to (ve hu (iB U M hd O) hk hv hs) λ_ _ _ q=>Hb q
end
section
variable {prog:Program}{w:World}{A:Around}{E:QV}{s:Shared}
abbrev nu (h:Heap)(z TI TO M:Addr)(f:Bool):Prop:=h.get? z=some { cls:=.type "zip",dict:=none,data:=.fields #[rawInt M,.bool f,.bool false,.ref TI,.ref TO],slots:=#[] }
theorem Hd (e:s.heap.get? a=some o)(h:Q (some o) s):wpAny (model prog w) A (loadIfAlive a) Q E s:=by
 intro O p M;simp_all[loadIfAlive]
theorem tR {z TI TO M:Addr}{f:Bool}{U:Obj}{Q:Bool->Shared->Prop}(hz:nu s.heap z TI TO M f)(a:s.heap.get? M=some U)
  (q:∀h',nu h' z TI TO M true->Heap.SameBut z s.heap h'->Q false { s with heap:=h' }):wpAny (model prog w) A (Builtin.SmallTypes.ownedTupleIsFree (.ref z)) Q E s:=by
 refine wX (wpAny_field hz rr rr ?_);show wpAny _ _ (loadIfAlive _>>=_) _ _ _;refine wX (Hd a ?_);refine wX (wpAny_field hz rr rr ?_);cases f with
 |true=>
  exact wY (q _ hz (.refl _ _))
 |false=>
  refine wX (wpAny_setField_rec hz V9 λh' O s'=>wY (q h' O s'))
end
section
variable {prog:Program}{w:World}{A:Around}{E:QV}{s:Shared}
theorem Eh {k1 k2:Bool}{z TI TO a i1 i2 l1 l2:Addr}{f:Bool}{m:Obj}{j:Nat}{xs ys:AV}{x y:Value}{Q:QV}(D:ZApart z TI TO i1 i2)(m1:l1≠z/\l1≠TO/\l1≠i1)(m2:l2≠z/\l2≠TO/\l2≠i1/\l2≠i2)
  (hz:nu s.heap z TI TO a f) (n:s.heap.get? a=some m) (p:IsPair s.heap TI (.ref i1) (.ref i2)) (r:jT k1 s.heap i1 l1 j) (t:jT k2 s.heap i2 l2 j) (u:jU k1 s.heap l1 xs) (q2:jU k2 s.heap l2 ys) (hx:xs[j]? = some x) (hy:ys[j]? = some y)
  (q:∀h',nu h' z TI TO a true->jT k1 h' i1 l1 (j+1)->jT k2 h' i2 l2 (j+1)->IsPair h' s.z x y ->
   (∀c o,c≠z->c≠i1->c≠i2->s.heap.get? c=some o->h'.get? c=some o)->Q (.ref s.z) { s with heap:=h' }):
  wpAny (model prog w) A (Builtin.«zip.__next__» ⟨[.ref z],[]⟩) (λdv s'=>∃v,dv=.done (.ret v)/\Q v s') E s:=by
 show wpAny _ _ (field (.ref z) 2>>=_) _ _ s;refine wX (wpAny_field hz rr (x:=.bool false) rr ?_);refine wX (wpAny_field hz rr (x:=.ref TI) rr (wX (wpAny_seqItems p rr ?_)));refine wX (tR hz n λg1 b s1=>?_);simp only[uU,if_false];refine wX ?_;refine wX (wX (wpAny_holding ?_));refine wX (ej (s:={ s with heap:=g1 }) (r.upon λo e=>s1.extBut _ _ D.az e) (u.upon λo e=>s1.extBut _ _ m1.1 e) hx λl d s2=>wY ?_);refine wY (wX (wX (wpAny_holding ?_)));have M:∀ {c o},c≠z->c≠i1->s.heap.get? c=some o->l.get? c=some o:=λO c3 e=>s2.extBut _ _ c3 (s1.extBut _ _ O e);refine wX (ej (s:={ s with heap:=l }) (t.upon λo e=>M D.bz D.ab.symm e) (q2.upon λo e=>M m2.1 m2.2.2.1 e) hy λg h U=>wY ?_);refine wY (wY ?_);refine wX (wpAny_newTuple (hsz:=(by decide:2<=sizeLine)) ?_);have sz:g.objs.size=s.z:=by rw[U.1,s2.1,s1.1]
 have i:∀c o,c≠z->c≠i1->c≠i2->s.heap.get? c=some o->g.get? c=some o:=λc o O c3 k e=>U.extBut _ _ k (M O c3 e);refine wY ⟨_,rr,?_⟩;have hp:IsPair _ g.objs.size x y:=vY _ rr;rw[sz]at hp |-;exact q _ (vZ _ (U.extBut _ _ D.bz.symm (s2.extBut _ _ D.az.symm b))) (d.upon λo e=>vZ _ (U.extBut _ _ D.ab e)) (h.upon λo e=>vZ _ e) hp λc o O c3 k e=>vZ _ (i c o O c3 k e)
theorem He {k1 k2:Bool}{z TI TO a i1 i2 l1 l2:Addr}{f:Bool}{h:Obj}{j:Nat}{xs ys:AV}{Q:PySem.Fin->Shared->Prop}(b:A.handled=none)(D:ZApart z TI TO i1 i2)(m1:l1≠z/\l1≠TO/\l1≠i1)(m2:l2≠z/\l2≠TO/\l2≠i1/\l2≠i2)
  (hz:nu s.heap z TI TO a f) (i:s.heap.get? a=some h) (k:IsPair s.heap TI (.ref i1) (.ref i2)) (d:jT k1 s.heap i1 l1 j) (l:jT k2 s.heap i2 l2 j) (g:jU k1 s.heap l1 xs) (q2:jU k2 s.heap l2 ys) (he:xs[j]? = none\/ys[j]? = none)
  (q:∀h' x,(∀c o,c≠z->c≠i1->c≠i2->s.heap.get? c=some o->h'.get? c=some o)->(∃o,h'.get? x=some o/\o.cls=.type "StopIteration")->E (.ref x) { s with heap:=h' }):
  wpAny (model prog w) A (Builtin.«zip.__next__» ⟨[.ref z],[]⟩) Q E s:=by
 show wpAny _ _ (field (.ref z) 2>>=_) _ _ s;refine wX (wpAny_field hz rr (x:=.bool false) rr ?_);refine wX (wpAny_field hz rr (x:=.ref TI) rr (wX (wpAny_seqItems k rr ?_)));refine wX (tR hz i λg1 m s1=>?_);refine wX ?_;refine wX (wX (wpAny_holding ?_));cases hx:xs[j]? with
 |none=>
  exact wX (gV (s:={ s with heap:=g1 }) b (d.upon λo e=>s1.extBut _ _ D.az e) (g.upon λo e=>s1.extBut _ _ m1.1 e) hx λU x s2 hX=>q U x (λc o O c3 _ e=>s2 _ _ c3 (s1.extBut _ _ O e)) hX)
 |some v=>
  have hy:ys[j]? = none:=by
   lia
  refine wX (ej (s:={ s with heap:=g1 }) (d.upon λo e=>s1.extBut _ _ D.az e) (g.upon λo e=>s1.extBut _ _ m1.1 e) hx λU n s2=>wY ?_);refine wY (wX (wX (wpAny_holding ?_)));have M:∀ {c o},c≠z->c≠i1->s.heap.get? c=some o->U.get? c=some o:=λO c3 e=>s2.extBut _ _ c3 (s1.extBut _ _ O e);exact wX (gV (s:={ s with heap:=U }) b (l.upon λo e=>M D.bz D.ab.symm e) (q2.upon λo e=>M m2.1 m2.2.2.1 e) hy λp x r hX=>q p x (λc o O c3 t e=>r _ _ t (M O c3 e)) hX)
end
structure ZA (k1 k2:Bool)(z TI TO i1 i2 l1 l2:Addr):Prop where
 D:ZApart z TI TO i1 i2
 m1:l1≠z/\l1≠TO/\l1≠i1
 m2:l2≠z/\l2≠TO/\l2≠i1/\l2≠i2
def Hf (k1 k2:Bool)(z TI TO i1 i2 l1 l2 S:Addr)(i:Nat)(h:Heap):Prop:=
 IsPair h TI (.ref i1) (.ref i2)/\jT k1 h i1 l1 i/\jT k2 h i2 l2 i/\((IsZip h z TI TO .none/\∃a b,IsPair h TO a b)\/∃M f O U,nu h z TI TO M f/\h.get? M=some O/\M∉[z,TI,TO,i1,i2]/\M≠S/\h.get? TO=some U)
theorem Hf.keep {k1 k2:Bool}{z TI TO i1 i2 l1 l2 S:Addr}{i:Nat}{h h':Heap}(st:Hf k1 k2 z TI TO i1 i2 l1 l2 S i h)(M:S∉[z,TI,TO,i1,i2])(k:∀b o,b≠S->h.get? b=some o->h'.get? b=some o):Hf k1 k2 z TI TO i1 i2 l1 l2 S i h':=by
 obtain⟨O,U,c,d⟩:=st;have n:∀ {b},b∈[z,TI,TO,i1,i2]->b≠S:=λhb e=>M (e ▸ hb);refine⟨k _ _ (n V9) O,U.upon λo e=>k _ o (n V9) e,c.upon λo e=>k _ o (n V9) e,?_⟩;rcases d with⟨b1,a,b,b2⟩|⟨g,f,j,l,b1,b2,b3,b4,m⟩
 .exact .inl ⟨k _ _ (n V9) b1,a,b,k _ _ (n V9) b2⟩
 .exact .inr ⟨g,f,j,l,k _ _ (n V9) b1,k _ _ b4 b2,b3,b4,k _ _ (n V9) m⟩
section
variable {prog:Program}{w:World}{A:Around}{E:QV}{s:Shared}{k1 k2:Bool}{z TI TO i1 i2 l1 l2 S:Addr}{j:Nat}{xs ys:AV}
theorem Hf.ty (st:Hf k1 k2 z TI TO i1 i2 l1 l2 S j h):∃o,h.get? z=some o/\o.cls=.type "zip":=by
 obtain⟨_,_,_,M⟩:=st;rcases M with⟨b1,_⟩|⟨O,f,U,a,b1,_⟩
 .exact⟨_,b1,rr⟩
 .exact⟨_,b1,rr⟩
theorem Hg (Z:ZA k1 k2 z TI TO i1 i2 l1 l2)(k:S<s.z)(st:Hf k1 k2 z TI TO i1 i2 l1 l2 S j s.heap)(i:jU k1 s.heap l1 xs)(q2:jU k2 s.heap l2 ys)(hx:xs[j]? = some x)(hy:ys[j]? = some y)
  (q:∀h',Hf k1 k2 z TI TO i1 i2 l1 l2 S (j+1) h'->IsPair h' s.z x y->(∀c o,c∉[z,TI,TO,i1,i2]->s.heap.get? c=some o->h'.get? c=some o)->Q (some (.ref s.z)) { s with heap:=h' }):
  wpAny (model prog w) A (pyNext (.ref z)) Q E s:=by
 have M:=st.ty;obtain⟨O,d,g,l⟩:=st;have lt:∀ {c o},s.heap.get? c=some o->s.z≠c:=λe=>ne_of_gt (vX e);obtain⟨t,u,_⟩:=d.ob;obtain⟨v,e2,_⟩:=g.ob;rcases l with⟨hz,a,b,h⟩|⟨m,f,n,p,hz,h0,n0,r,h⟩
 .refine wX (wpAny_attempt (wpAny_callSpecial?_slot M slot_zip_next (wpAny_call_entry slot_zip_next M entry_zip_next (ya Z.D Z.m1 Z.m2 hz O h d g i q2 hx hy λh' b1 b2 b3 b4 U B bk=>wY ?_) (args_zip_next_1 _))));refine q h' ⟨bk _ _ Z.D.tz Z.D.to Z.D.ta Z.D.tb O,b3,b4,.inr ⟨_,false,_,_,b1,U,?_,ne_of_gt k,b2⟩⟩ U λc o hc e=>bk c o (λz=>hc (by simp[z])) (λz=>hc (by simp[z])) (λz=>hc (by simp[z])) (λz=>hc (by simp[z])) e;simp_all
 .refine wX (wpAny_attempt (wpAny_callSpecial?_slot M slot_zip_next (wpAny_call_entry slot_zip_next M entry_zip_next (Eh Z.D Z.m1 Z.m2 hz h0 O d g i q2 hx hy λh' b1 b3 b4 U bk=>wY ?_) (args_zip_next_1 _))));exact q h' ⟨bk _ _ Z.D.tz Z.D.ta Z.D.tb O,b3,b4,.inr ⟨m,true,n,p,b1,bk _ _ (λz=>n0 (by simp[z])) (λz=>n0 (by simp[z])) (λz=>n0 (by simp[z])) h0,n0,r,bk _ _ Z.D.oz Z.D.oa Z.D.ob h⟩⟩ U λc o hc e=>bk c o (λz=>hc (by simp[z])) (λz=>hc (by simp[z])) (λz=>hc (by simp[z])) e
theorem Hh (U:A.handled=none)(Z:ZA k1 k2 z TI TO i1 i2 l1 l2)(st:Hf k1 k2 z TI TO i1 i2 l1 l2 S j s.heap)(d:jU k1 s.heap l1 xs)(q2:jU k2 s.heap l2 ys)(he:xs[j]? = none\/ys[j]? = none)
  (q:∀h',(∀c o,c∉[z,TI,TO,i1,i2]->s.heap.get? c=some o->h'.get? c=some o)->Q none { s with heap:=h' }):wpAny (model prog w) A (pyNext (.ref z)) Q E s:=by
 have M:=st.ty;obtain⟨g,h,i,l⟩:=st;unfold pyNext;rcases l with⟨hz,a,b,k⟩|⟨m,f,n,p,hz,h0,n0,r,k⟩
 .refine wX (wpAny_attempt (wpAny_callSpecial?_slot M slot_zip_next (wpAny_call_entry slot_zip_next M entry_zip_next (BF U Z.D Z.m1 Z.m2 hz g k h i d q2 he λh' x hk hX=>?_) (args_zip_next_1 _))));obtain⟨o,O,co⟩:=hX;exact wX (wpAny_isInstance (b:=true) ⟨o,O,co⟩ isSubtype_stop (wY (q h' λc o hc e=>hk c o (λz=>hc (by simp[z])) (λz=>hc (by simp[z])) (λz=>hc (by simp[z])) (λz=>hc (by simp[z])) e)))
 .refine wX (wpAny_attempt (wpAny_callSpecial?_slot M slot_zip_next (wpAny_call_entry slot_zip_next M entry_zip_next (He U Z.D Z.m1 Z.m2 hz h0 g h i d q2 he λh' x hk hX=>?_) (args_zip_next_1 _))));obtain⟨o,O,co⟩:=hX;exact wX (wpAny_isInstance (b:=true) ⟨o,O,co⟩ isSubtype_stop (wY (q h' λc o hc e=>hk c o (λz=>hc (by simp[z])) (λz=>hc (by simp[z])) (λz=>hc (by simp[z])) e)))
end
theorem Hi (h:a≠b):upd (upd H a o) b u=upd (upd H b u) a o:=by
 funext c;unfold upd;lia
theorem jv (h:H a=none):aD H (upd H a o):=λb u e=>by rw[a6 (aL e h)];exact e
theorem Ei (h:(gW ds es)[i]? = some d):(gW ds es).take (i+1)=(gW ds es).take i++[d]:=by
 rw[take_add_one,h];rfl
theorem A8:typeLookup (.type "zip") "__len__" = pure none:=I9
theorem yA:typeLookup (.type "zip") "__length_hint__" = pure none:=I9
section
variable {X:Cx}{af:AO}{σ:St}{B H0:Hp}{A:Around}{R:Result->Shared->Prop}{k1 k2:Bool}{z TI TO i1 i2 l1 l2 S:Addr}{us ws:LV}{ds es:LD}
theorem Ej (T:A.handled=none)(Z:ZA k1 k2 z TI TO i1 i2 l1 l2)(h:S∉[z,TI,TO,i1,i2])(h1:kG k1 X.K B l1 us)(C:IsL X.K B us ds)(h2:kG k2 X.K B l2 ws)(D:IsL X.K B ws es)
  (hR:∀M N vs s',Inv X af σ (upd M S (.lst vs)) s'->M S=none->Ext B N H0 M->IsL X.K N vs (gW ds es)->R (.ok (.ret .none)) s'):
  ∀(k i:Nat)(s:Shared)(M N:Hp)(vs:LV),(gW ds es).length - i=k->i<=(gW ds es).length->Inv X af σ (upd M S (.lst vs)) s->M S=none->Ext B N H0 M->(∀b∈[z,TI,TO,i1,i2],kU X af (upd M S (.lst vs)) b) ->
   Hf k1 k2 z TI TO i1 i2 l1 l2 S i s.heap->IsL X.K N vs ((gW ds es).take i) ->
   codeAny (model X.prog X.w) A (.builtin "list.extend.loop" ⟨[.ref S,.ref z,.none],[]⟩) R s:=by
 have n1:=C.length;have n2:=D.length;have nz:(gW ds es).length=min ds.length es.length:=by simp_all[gW]
 intro k;induction k with
 |zero=>
  intro i s M N vs hk hi I hc O fp st j;have Bn:i=(gW ds es).length:=N9
  have a:aD B (upd M S (.lst vs)):=(O.bn.trans O.nh).trans (jv hc);obtain⟨its,l,m,E⟩:=(h1.same a).vals I;obtain⟨W,n,p2,Y⟩:=(h2.same a).vals I;have e1:=l.length;have e2:=n.length;refine codeAny_builtin PySem.F.entry_extend_loop ?_;rw[Around.under_plainId plain_extend_loop _];show wpAny _ A.in1 (pyNext (.ref z)>>=_) _ _ s;refine wX (Hh (A:=A.in1) T Z st m p2 ?_ λh' U=>?_)
  .by_cases q:ds.length<=es.length
   .left;simp;lia
   .right;simp;lia
  .refine wY (hR M N vs _ (jV (t':=s.toks) I fp U) hc O ?_);grind
 |succ k ih=>
  intro i s M N vs hk hi I hc O fp st j;have oe:i<(gW ds es).length:=N9
  have a:aD B (upd M S (.lst vs)):=(O.bn.trans O.nh).trans (jv hc);obtain⟨its,l,m,E⟩:=(h1.same a).vals I;obtain⟨W,n,p2,Y⟩:=(h2.same a).vals I;have d1:i<ds.length:=N9
  have d2:i<es.length:=N9
  obtain⟨x,hx,ix⟩:=C.get (vU d1);obtain⟨y,hy,iy⟩:=D.get (vU d2);obtain⟨u,hu,ru⟩:=l.get hx;obtain⟨v,hv,rv⟩:=n.get hy;have el:(gW ds es)[i]? = some (.tup [ds[i],es[i]]):=by
   simp_all[gW]
  obtain⟨zl,acc,c,p,ev0,G⟩:=I.lstM aq;have H:S<s.z:=vX G;refine codeAny_builtin PySem.F.entry_extend_loop ?_;show wpAny _ A.in1 (pyNext (.ref z)>>=_) _ _ s;refine wX (Hg (A:=A.in1) Z H st m p2 (by simpa using hu) (by simpa using hv) λh' Fe hp U=>?_);have J:upd M S (.lst vs) s.z=none:=I.hok.fresh (vT _);have r:s.z≠S:=ne_of_gt H;have d:M s.z=none:=by rw[a6 r]at J;exact J
  have new:bc X.prog X.w (upd (upd M S (.lst vs)) s.z (.tup [x,y])) h' s.z (.tup [x,y]):=⟨by show 2<=sizeLine;decide,[u,v],.cons ru (.cons rv .nil),⟨_,hp,rr,_,rr⟩⟩;have L:=BG (s:=s) (t':=s.toks) I fp U (vT _) new;rw[Hi r.symm]at L;have g:=U S _ h G;have t:Ext B (upd N s.z (.tup [x,y])) H0 (upd M s.z (.tup [x,y])):=O.trans (Ext.laid O.nh d);have vl:vs.length=i:=by rw[j.length,length_take];lia
  have zs:=zl;refine wX ?_;have lz:(vs++[V.ref s.z]).length<=sizeLine:=by
   rw[uY,vl];have a1:=E;show i+1<=sizeLine;lia
  have P:=L.lset (t':=s.toks) (ys:=vs++[.ref s.z]) (its':=acc++[.ref s.z]) (f:=(·.push (Value.ref s.z))) aq g V9 (p.append (.cons (show aG (.ref _) (.ref _)from rr) .nil)) lz;rw[l7]at P;refine wpAny_updateSeq g rr (wY ⟨plainId_quiet plain_extend_loop _,ih (i+1) _ _ _ (vs++[.ref s.z]) N9 oe P (by rw[a6 r.symm];exact hc) t (λb hb=>?_) (Fe.keep h λb o hb e=>(Heap.get?_update_other _ _ (Ne.symm hb)).trans e) ?_⟩) Y9 Y9
  .obtain⟨Q,f1,f2,f3,f4,f5⟩:=fp b hb;refine⟨?_,f1,f2,f3,f4,f5⟩;have nb:b≠S:=λe=>h (e ▸ hb);rw[a6 nb]at Q |-;have nT:b≠s.z:=by
    obtain⟨hI,t1,t2,a4⟩:=st;obtain⟨o1,e1,_⟩:=t1.ob;obtain⟨o2,e2,_⟩:=t2.ob;have lt:∀ {c o},s.heap.get? c=some o->c≠s.z:=λe=>vS (vX e);grind
   rw[a6 nT];exact Q
  .rw[Ei el];exact(j.mono (Ext.laid O.nh d).bn).append (.cons (.tup (fL.of aq) (.cons (ix.mono t.bn) (.cons (iy.mono t.bn) .nil))) .nil)
end
section
variable {X:Cx}{af:AO}{σ:St}{B H:Hp}{s:Shared}{k1 k2:Bool}{z TI TO i1 i2 l1 l2:Addr}{us ws:LV}{ds es:LD}
theorem sK (x:X.A.handled=none)(I:Inv X af σ H s)(Z:ZA k1 k2 z TI TO i1 i2 l1 l2)(fp:∀b∈[z,TI,TO,i1,i2],kU X af H b)
  (y:IsPair s.heap TI (.ref i1) (.ref i2)) (n:jT k1 s.heap i1 l1 0) (p:jT k2 s.heap i2 l2 0) (hz:IsZip s.heap z TI TO .none) (C:IsPair s.heap TO a b)
  (D:aD B H) (h1:kG k1 X.K B l1 us) (E:IsL X.K B us ds) (h2:kG k2 X.K B l2 ws) (G:IsL X.K B ws es)
  (q:∀(S:Addr)(d N:Hp)(vs:LV),d S=none->Ext B N H d->IsL X.K N vs (gW ds es)->Q (.ref S) (upd d S (.lst vs))):
  wq X (call (.type "list") [.ref z]) (EP X af σ Q) X.xe s:=by
 have lt:∀ {c o},s.heap.get? c=some o->s.z≠c:=λe=>ne_of_gt (vX e);have M:s.z∉[z,TI,TO,i1,i2]:=by
  obtain⟨o1,e1,_⟩:=n.ob;obtain⟨o2,e2,_⟩:=p.ob;simp_all
 have r:s.z≠z:=lt hz;have k:Hf k1 k2 z TI TO i1 i2 l1 l2 s.z 0 s.heap:=⟨y,n,p,.inl ⟨hz,a,b,C⟩⟩;have hc:H s.z=none:=I.fresh;refine callType_codes (Q₁:=λobj U=>obj=.ref s.z/\U={ s with heap:=s.heap.push { cls:=.type "list",data:=.seq #[] } }) PySem.F.called_list (PySem.F.typeCall_list_1 _) PySem.F.entry_list_init
  (code_list_new _ ⟨rr,rr⟩) λobj U g=>?_
 obtain⟨rfl,rfl⟩:=g;have h:(s.heap.push { cls:=.type "list",data:=.seq #[] }).get? s.z=some _:=vY _ rr;have J:=I.lnew (t':=s.toks) (its:=[]) .nil (uM _);have SD:Hf k1 k2 z TI TO i1 i2 l1 l2 s.z 0 (s.heap.push { cls:=.type "list",data:=.seq #[] }):=k.keep M λb o _ e=>vZ _ e;refine⟨⟨_,h,rr⟩,PySem.F.args_list_init_2 _ _,?_⟩;refine wX ?_;unfold Builtin.List.listItems;refine wX (wpAny_seqItems h rr (wY ?_));refine wX (wpAny_updateSeq h rr ?_);have i:=J.lset (t':=s.toks) (ys:=[]) (its':=[]) (f:=λ_=>#[]) aq h rr .nil (uM _);have O:=SD.keep (h':=(s.heap.push { cls:=.type "list",data:=.seq #[] }).update s.z (Obj.mapSeq λ_=>(#[]:AV))) M λb o hb e=>(Heap.get?_update_other _ _ (Ne.symm hb)).trans e;rw[l7]at i;generalize l:(s.heap.push { cls:=.type "list",data:=.seq #[] }).update s.z (Obj.mapSeq λ_=>(#[]:AV))=g2 at i O |-;obtain⟨_,YN,c2,L,_,t⟩:=i.lstM aq;have e2:=L.zero;subst e2;refine wX (wpAny_letGo ?_);unfold Builtin.List.listExtendWith;refine wX (wpAny_typeOf (T:="zip") O.ty ?_);have m:Builtin.List.listSameRef (.ref s.z) (.ref z)=false:=by simp[Builtin.List.listSameRef,r]
 have P:(Value.type "zip" == Value.type "list")=false:=Z9
 have R:(Value.type "zip" == Value.type "tuple")=false:=Z9
 simp only[m,P,R,Bool.or_false,uU,if_false];have V:IsZip g2 z TI TO .none:=by
  rw[<-l];exact(Heap.get?_update_other _ _ r).trans (vZ _ hz)
 refine wX (wpAny_pyIter_zip V ?_);refine wX (wpAny_holding ?_);unfold Builtin.List.listLengthHint;refine wX (wpAny_specialOf (T:="zip") O.ty A8 ?_);refine wX (wpAny_specialOf (T:="zip") O.ty yA ?_);refine wY ?_;refine wX (wpAny_rule ?_);refine wX ?_;refine wX (wpAny_updateSeq t rr ?_);have j:=i.lset (t':=s.toks) (ys:=[.non]) (its':=[.none]) (f:=(·.push .none)) aq t rr (.cons (show aG .non .none from rr) .nil) (by show 1<=sizeLine;decide);have u:=O.keep (h':=g2.update s.z (Obj.mapSeq (·.push .none))) M λb o hb e=>(Heap.get?_update_other _ _ (Ne.symm hb)).trans e;rw[l7]at j;generalize W:g2.update s.z (Obj.mapSeq (·.push .none))=g3 at j u |-;obtain⟨_,Y,c3,v3,_,v⟩:=j.lstM aq;obtain⟨n3,rfl,r3⟩:=v3.one;cases r3
 refine wpAny_updateSeq (hz:=by simp<;>decide) v rr ?_
 have w:=j.lset (t':=s.toks) (ys:=[]) (its':=[]) (f:=(·.pop)) aq v rr .nil (uM _);have XQ:=u.keep (h':=g3.update s.z (Obj.mapSeq (·.pop))) M λb o hb e=>(Heap.get?_update_other _ _ (Ne.symm hb)).trans e;rw[l7]at w;refine wY ⟨plainId_quiet plain_extend_loop _,Ej (A:=X.A.in1) (B:=B) (H0:=H) x Z M h1 E h2 G (λd N vs s' I' Nw xt il=>?_) _ 0 _ H B [] rr (uM _) w hc (Ext.refl D) (λb hb=>?_) XQ .nil⟩
 .exact⟨rr,.ref s.z,_,I',rr,q _ d N vs Nw xt il⟩
 .obtain⟨f0,f1⟩:=fp b hb;refine⟨?_,f1⟩;grind[a6]
end
@[simp] def Zq (fa M:FE):FE:=λρ=>(Gs fa M ρ).map λds=>(.lst ds,true)
section
variable {X:Cx}{a b:Expr}{pos p pos2 p2:Pos}
theorem A9 (A:X.calm=true)(hl:X.mg "list" = none)(hm:X.mg "zip" = none)(ha:JE X a fa)(hb:JE X b fb)(k:Gl X "list")(C:Gl X "zip")
  (hs:starEach [a,b] X.env=[(false,eval a X.env),(false,eval b X.env)]) (O:starEach [b] X.env=[(false,eval b X.env)])
  (v:starEach [.Call (.Name "zip" p2) [a,b] [] pos2] X.env=[(false,eval (.Call (.Name "zip" p2) [a,b] [] pos2) X.env)]):
  JE X (.Call (.Name "list" p) [.Call (.Name "zip" p2) [a,b] [] pos2] [] pos) (Zq fa fb):=by
 intro af s σ H Q I q;obtain⟨B,ρ,d,bb,E,r,M,dv⟩:=q;obtain⟨zs,g,e2⟩:=oY M;cases e2
 clear M;have M:=g;clear g;obtain⟨w,ex,M⟩:=oX M;obtain⟨x,F,M⟩:=oX M;obtain⟨xs,G,M⟩:=oX M;obtain⟨ys,J,M⟩:=oY M;subst M;refine wpAny_Call_Name_kw (fK I k hl Ai ?_ Z9 Z9);refine PyProof.Rows.callWith_type1 ?_ (by rw[v];rfl) rr;rw[v];refine Calls.spliced_cons ?_;refine wpAny_Call_Name_kw (fK I C hm NU ?_ Z9 Z9);refine PyProof.Rows.callWith_type1 (bJ (gB ha (gB hb mS O) (by rw[hs,O]) pos2 af s σ H (λvs i=>∃N1,Ext B N1 H i/\IsL X.K N1 vs [w.1,x.1]) I ⟨B,ρ,[w.1,x.1],E,r,by simp[ao,av,ex,F],λvs i N1 c i1=>⟨N1,c,i1⟩⟩) λus s1 ⟨vs,i,f,L,N1,c,P⟩=>?_) (by rw[hs,O]) (by rw[O];rfl);cases P with
 |cons R m=>
  cases m with
  |cons m T=>
   cases T
   obtain⟨k1,l1,V,rfl,h1,m1⟩:=t9 R G;obtain⟨k2,l2,W,rfl,h2,m2⟩:=t9 m J;obtain⟨u1,u2,rfl,Y,Z⟩:=L.two;cases Y
   cases Z
   obtain⟨its,v1,y,z1⟩:=(h1.same c.nh).vals f;obtain⟨Du,v2,p2,z2⟩:=(h2.same c.nh).vals f;have Fa:=y.lt;have U:=p2.lt;refine BE y p2 λh' c1 c2 c3 c4 c5 ck=>?_;have D:ZApart (s1.z+4) (s1.z+2) (s1.z+3) s1.z (s1.z+1):=by
    constructor<;>(simp)
   have e:∀ {l:Addr}(n:Nat),l<s1.z->l≠s1.z+n:=λn hl=>vS (vQ hl (Nat.le_add_right _ n));refine Calls.spliced_nil ?_;refine sK (k1:=k1) (k2:=k2) (B:=N1) (H:=i) (f.ok.hd A) (f.kept (t':=s1.toks) ck) ⟨D,⟨e 4 Fa,e 3 Fa,e 0 Fa⟩,⟨e 4 U,e 3 U,e 0 U,e 1 U⟩⟩ (λb hb=>?_) c2 c4 c5 c1 c3 c.nh h1 m1 h2 m2 λS Hc N vs t j u=>?_
   .have z:s1.z<=b:=by
     grind
    exact f.fpOk z (f.hok.fresh z)
   .have x3:=(c.trans j).trans (Ext.laid (o:=.lst vs) j.nh t);have h:=u.mono (Ext.laid (o:=.lst vs) j.nh t).bn;exact dv _ _ _ x3 (.lst (dW.of aq) h) λ_=>⟨_,_,_,rr,rr,(c.trans j).hh.free t,aq,h⟩
end
end DL
namespace DL
open PySem PySem.Spec PyProof.Rows
theorem ww:typeLookup (.type "list") "keys" = pure none:=I9
theorem Ek
  (hx:s.heap.get? a=some { cls:=.type "list",dict:=none,data:=.seq xs k,slots:=sl }) (U:A.handled=none)
  (h:∀h' tk,(∀b o,s.heap.get? b=some o->h'.get? b=some o)->Q none { s with heap:=h',toks:=tk }):
  wpAny (model prog w) A (getAttr? (.ref a) "keys") Q E s:=by
 obtain⟨hp,g,d,tk,os⟩:=s;have O:∀M,(⟨hp,g,d,M,os⟩:Shared).TypeIs (.ref a) "list":=λ_=>⟨_,hx,rr⟩;have f1:=sub_AttributeError;have c:=slot_list_getattribute.lookup;have f:=slot_list_getattribute.bind (.ref a);have i:=am_list_getattr_none;unfold getAttr? getAttrBy? getAttrBy;repeat (any_goals (first|assumption|exact O _|((with_reducible show wpAny _ _ (call (Value.builtin "list.__getattribute__") _ _) _ _ _);refine call_meets slot_list_getattribute (O _) am_entry_list_getattribute (PySem.F.args_list_getattribute_2 _ _) (meets_getattribute_miss_list a xs k sl "keys" _ ww Z9 Z9) ⟨hx,U,λh' M e hx'=>?_⟩)|wp_step))
 obtain⟨t',j,he⟩:=hx'.there;show wpAny _ _ (getattributeRaised _ _ _ _ _ _ _) _ _ _;unfold getattributeRaised;repeat (any_goals (first|assumption|wp_step))
 exact h _ _ hx'.of.keeps
end DL
namespace DL
open PySem PySem.Spec PyProof.Rows L2
def fX:LD->Option (List (di×D))
 |[]=>some []
 |.tup [k,v]::r=>(kJ k).bind λM=>(fX r).map λl=>(M,v)::l
 |_=>none
noncomputable def qy (a:LK×LD)(p:di×D):LK×LD:=(f6 a.1 p.1,dc a.1 a.2 p.1 p.2)
noncomputable def bN (l:List (di×D)):LK×LD:=l.foldl qy ([],[])
theorem qz (l:List (di×D))(p:di×D):bN (l++[p])=qy (bN l) p:=by simp_all[bN]
theorem q8a {d:D}{r:LD}{l:List (di×D)}(h:fX (d::r)=some l):∃k v,d=.tup [k,v]:=by
 cases d with
 |tup ds=>rcases ds with _|⟨a,_|⟨b,_|⟨c,ds⟩⟩⟩<;>first|exact⟨_,_,rfl⟩|cases h
 |_=>cases h
theorem q8:∀ {ds:LD}{l:List (di×D)},fX ds=some l->l.length=ds.length
 |[],l,h=>by cases h;rfl
 |d::r,l,h=>by
  obtain⟨k,v,rfl⟩:=q8a h;obtain⟨O,_,h⟩:=oX h;obtain⟨U,h1,rfl⟩:=oY h;simp[q8 h1]
theorem q9:∀ {ds:LD}{l:List (di×D)}{i:Nat}{d:D},fX ds=some l->ds[i]? = some d->∃k v M,d=.tup [k,v]/\kJ k=some M/\l[i]? = some (M,v)
 |[],l,i,d,_,h=>by simp at h
 |d0::r,l,i,d,h,hi=>by
  obtain⟨k,v,rfl⟩:=q8a h;obtain⟨M,h2,h⟩:=oX h;obtain⟨U,h1,rfl⟩:=oY h;cases i with
  |zero=>simp at hi;subst hi;exact⟨k,v,M,rr,h2,rr⟩
  |succ i=>simp only[List.getElem?_cons_succ]at hi |-;exact q9 h1 hi
theorem Hj (l:List (di×D)):∀a:LK×LD,a.1.length=a.2.length->(l.foldl qy a).1.length=(l.foldl qy a).2.length/\(l.foldl qy a).1.length<=a.1.length+l.length:=by
 induction l with
 |nil=>simp
 |cons p l M=>
  intro a h;have h1:(qy a p).1.length<=a.1.length+1:=by
   show(f6 _ _).length<=_;unfold f6;split<;>simp
  have:=M (qy a p) (lU h _ _);rw[foldl_cons,vC];exact⟨this.1,N9⟩
theorem El (l:List (di×D)):(bN l).1.length=(bN l).2.length/\(bN l).1.length<=l.length:=by
 have:=Hj l ([],[]) rr;exact⟨this.1,vR this.2 V9⟩
theorem tS:entryFor table "dict.update.loop" = some Builtin.«dict.update.loop»:=entryFor_of_tree W9
theorem jX:plainId "dict.update.loop" = true:=H9
section
variable {X:Cx}{af:AO}{σ:St}{B H0:Hp}{A:Around}{R:Result->Shared->Prop}{it l d:Addr}{us:LV}{ds:LD}{jc:List (di×D)}
theorem AA (Z:A.handled=none)(nl:l≠it)(nd:d≠it)(hl:dW X.K B l us)(G:IsL X.K B us ds)(hp:fX ds=some jc)
  (hR:∀M N vs ob s',Inv X af σ (upd M d (.dK ((bN jc).1.zip vs) ob)) s'->M d=none->Ext B N H0 M->(bN jc).1.length=vs.length->IsL X.K N vs (bN jc).2->R (.ok (.ret .none)) s'):
  ∀(k i:Nat)(tk:Nat)(s:Shared)(M N:Hp)(vs:LV)(ob:Obj),ds.length - i=k->i<=ds.length->Inv X af σ (upd M d (.dK ((bN (jc.take i)).1.zip vs) ob)) s->M d=none->Ext B N H0 M->kU X af (upd M d (.dK ((bN (jc.take i)).1.zip vs) ob)) it ->
   s.heap.IsListIter it l i->(bN (jc.take i)).1.length=vs.length->IsL X.K N vs (bN (jc.take i)).2 ->
   codeAny (model X.prog X.w) A (.builtin "dict.update.loop" ⟨[.ref d,.ref it,.int i tk,.none],[]⟩) R s:=by
 have n1:=G.length;have n2:=q8 hp;intro k;induction k with
 |zero=>
  intro i tk s M N vs ob hk hi I hc O fp st hz hv;have Bn:i=ds.length:=N9
  have m:aD B (upd M d (.dK ((bN (jc.take i)).1.zip vs) ob)):=(O.bn.trans O.nh).trans (jv hc);obtain⟨its,n,p,z1⟩:=I.list (m.seq hl);have e1:=n.length;refine codeAny_builtin tS ?_;rw[Around.under_plainId jX _];refine wX (wpAny_pyNext_list_end (A:=A.in1) Z st p.isList Y9 λh' ND=>?_);refine wX (wY (wY ?_));have f:=jV (t':=s.toks) (h':=h') (ch:=[it]) I (λb hb=>by rw[uS hb];exact fp) λb o hb e=>ND b o (λq=>hb (by simp[q])) e;rw[Bn,<-n2,take_length]at f hz hv;exact hR M N vs ob _ f hc O hz hv
 |succ k ih=>
  intro i tk s M N vs ob hk hi I hc O fp st hz hv;have U:i<ds.length:=N9
  have m:aD B (upd M d (.dK ((bN (jc.take i)).1.zip vs) ob)):=(O.bn.trans O.nh).trans (jv hc);obtain⟨its,n,p,z1⟩:=I.list (m.seq hl);obtain⟨kd,H,g,ed,ek,el⟩:=q9 hp (vU U);obtain⟨x,hx,J⟩:=G.get (vU U);rw[ed]at J;cases J with
  |@tup T xs _ hT t=>
   cases t with
   |cons ik r=>
    cases r with
    |cons iv r=>
     cases r
     rename_i xk L;have v:=tQ ik ek;subst v;obtain⟨u,hu,ru⟩:=n.get hx;cases (show u=Value.ref T from ru)
     refine codeAny_builtin tS ?_;rw[Around.under_plainId jX _];refine wX (wpAny_pyNext_list_item (A:=A.in1) st p.isList (x:=.ref T) (by simpa using hu) λh' Fe hs=>?_);have f:=jV (t':=s.toks) (h':=h') (ch:=[it]) I (λb hb=>by rw[uS hb];exact fp) λb o hb e=>hs.extBut b o (λq=>hb (by simp[q])) e;obtain⟨ps,r2,p2,z2⟩:=f.tuple (aK m hT);obtain⟨uk,uv,rfl,rk,rv⟩:=r2.two;have y:Shared.TypeIs { s with heap:=h' } (.ref T) "tuple":=by obtain⟨o,e,c,_⟩:=p2;exact⟨o,e,c⟩
     dsimp only;refine wX (wpAny_holding (wX (wpAny_tryCatch ?_)));unfold Builtin.Dict.pairItems;refine wX (wpAny_typeOf y ?_);obtain⟨oT,eT,cT,nT,dT⟩:=p2;rw[if_pos Z9];refine wX (wpAny_seqItems eT dT (wY ?_));obtain⟨zz,Y1,z,h,dd⟩:=pN f.hok (a:=d) aq;have C:z.length<=sizeLine:=by rw[<-h.length];exact zz
     have nk:((bN (jc.take i)).1.zip vs).length<sizeLine:=by
      grind[El]
     refine wpAny_holding (wpAny_dictSet_pairs (hsz:=C) (xG rk) dd λh2 P Q=>?_);have SF:(mP ((bN (jc.take i)).1.zip vs) g L).length<=sizeLine:=by grind[jk]
     obtain⟨E,S⟩:∃q,h2.get? d=some q:=let ⟨q,_,_,hq,_⟩:=P;⟨q,hq⟩;have V:=vc (t':=s.toks+1) f (a:=d) (by rw[aq];exact True.intro) Q ⟨_,S⟩ (F7 SF Y1 (h.put g rv) P S);rw[l7,p9 hz]at V;have W:jc.take (i+1)=jc.take i++[(g,H)]:=by rw[take_add_one,el];rfl
     have j:(bN (jc.take (i+1))).1=f6 (bN (jc.take i)).1 g:=by rw[W,qz];rfl
     have F:(bN (jc.take (i+1))).2=dc (bN (jc.take i)).1 (bN (jc.take i)).2 g H:=by rw[W,qz];rfl
     refine wY ⟨plainId_quiet jX _,?_⟩;refine ih (i+1) 0 _ M N (dc (bN (jc.take i)).1 vs g L) E N9 U (by rw[j];exact V) hc O ?_ ?_ ?_ ?_
     .obtain⟨Y,f1⟩:=fp;refine⟨?_,f1⟩;rw[a6 nd.symm]at Y |-;exact Y
     .exact Fe.at λo e=>(Q.2 it nd.symm).trans e
     .rw[j];exact lU hz _ _
     .rw[F];exact hv.put (iv.mono O.bn)
end
@[simp] def lV:LD->OB
 |[.lst ds]=>(fX ds).map λM=>(.dk (bN M).1 (bN M).2,false)
 |_=>none
theorem Q4:bootBuiltins "dict" = some (.type "dict"):=H9
section
variable {X:Cx}
theorem Q5 (x:X.calm=true):bH X (.type "dict") (Ae X.K lV):=by
 intro af s σ H xs us Q I r h;obtain⟨B,y,d0,bb,j,z,U,q⟩:=h;cases z with
 |nil=>simp[lV]at U
 |cons i1 i2=>
  cases i2 with
  |cons _ _=>cases i1<;>simp[lV]at U
  |nil=>
   cases i1<;>try (simp[lV]at U;done)
   rename_i l S ds hl C;simp only[lV]at U;obtain⟨k,hp,U⟩:=oY U;cases U
   obtain⟨u,rfl,D⟩:=fM r;cases D
   have m:X.A.handled=none:=I.ok.hd x;refine callType_codes (Q₁:=λobj O=>obj=.ref s.z/\O={ s with heap:=s.heap.push _ }) PySem.F.kt_called_dict (PySem.F.kt_typeCall_dict_1 _) PySem.F.entry_dict_init (kt_code_dict_new _ ⟨rr,rr⟩) ?_;rintro obj O ⟨rfl,rfl⟩;have n:=I.laid (t':=s.toks) (λb o e=>vZ _ e) (vT _) (xH s.heap I.big);have a:H s.z=none:=I.fresh;have p:Shared.TypeIs { s with heap:=s.heap.push { cls:=.type "dict",data:=.dict #[] } } (.ref s.z) "dict":=⟨_,vY _ rr,rr⟩;refine⟨p,PySem.F.args_dict_init_2 _ _,?_⟩;unfold Builtin.«dict.__init__»;refine wX ?_;unfold Builtin.Dict.selfAndRest;refine wX (wpAny_notOrdered_dict p ?_);refine wY ?_;show wpAny _ _ (Builtin.Dict.updateFrom "dict.__init__" s.z (.ref l) [] .none) _ _ _;unfold Builtin.Dict.updateFrom;have E:aD B (upd H s.z (.dK [] { cls:=.type "dict",data:=.dict #[] })):=j.trans (jv a);obtain⟨its,T,t,V⟩:=n.list (E.seq hl);have pl:=t.isList;obtain⟨v,G,M,cl,c,dl⟩:=t;have f:Shared.TypeIs _ (.ref l) "list":=⟨v,M,cl⟩;refine wX (wpAny_typeOf f ?_);rw[if_pos Z9];obtain⟨oc,od,W,os⟩:=v;simp only at cl c dl;subst cl c dl;refine wX (Ek M (by exact m) λh' tk hk=>?_);dsimp only[Option.isNone_none];rw[if_pos rr];have g:=n.kept (t':=tk) hk;refine wX (wpAny_rule ?_);refine wX (wpAny_pyIter_list (items:=its.toArray) ⟨_,hk _ _ M,rr,G,rr⟩ ?_);have J:Inv X af σ _ { s with heap:=h'.push { cls:=.type "list_iterator",data:=.fields #[.ref l,.int 0 0] },toks:=tk }:=g.kept (t':=tk) λb o e=>vZ _ e;have ld:s.z<h'.objs.size:=vX (hk _ _ (vY _ rr));have L:l<h'.objs.size:=vX (hk _ _ M);refine wY ⟨plainId_quiet jX _,AA (A:=X.A.in1) (B:=B) (H0:=H) (l:=l) (d:=s.z) (it:=h'.objs.size) m (vS L) (vS ld) hl C hp (λY N vs ob s' P w i hz hv=>?_) _ 0 0 _ H B [] _ rr (uM _) J a (Ext.refl j) (g.fpOk (vT _) (g.hok.fresh (vT _))) ⟨_,vY _ rr,rr,rr⟩ rr .nil⟩;refine⟨rr,.ref s.z,_,P,rr,?_⟩;have R:=i.trans (Ext.laid (o:=.dK ((bN k).1.zip vs) ob) i.nh w);exact q _ _ _ R (.dk aq hz (hv.mono (Ext.laid (o:=.dK ((bN k).1.zip vs) ob) i.nh w).bn)) V9
end
@[simp] noncomputable def Ob:FE:=λ_=>none
theorem Sz (h:n+40<cLine):n+1<cLine:=N9
section
variable {X:Cx}{e tg:Expr}
theorem Mr:JE X e Ob:=λaf s σ H Q I h=>by obtain⟨B,ρ,d,b,_,_,e,_⟩:=h;cases e
end
theorem IsL.rep {K:Frag}{H:Hp}{vs:LV}{ds:LD}(h:IsL K H vs ds):∀k:Nat,IsL K H (List.replicate k vs).flatten (List.replicate k ds).flatten
 |0=>.nil
 |k+1=>by rw[replicate_succ,replicate_succ,flatten_cons,flatten_cons];exact h.append (IsL.rep h k)
def jY:LD->Option LK
 |[]=>some []
 |d::ds=>(kJ d).bind λk=>(jY ds).map (k :: ·)
theorem AB {K:Frag}{B:Hp}:∀ {vs:LV}{ds:LD}{ks:LK},IsL K B vs ds->jY ds=some ks->vs=ks.map kV
 |_,_,ks,.nil,e=>by simp[jY]at e;subst e;rfl
 |_,_,ks,.cons i is,e=>by
  obtain⟨k,h1,e⟩:=oX e;obtain⟨r,h2,rfl⟩:=oY e;rw[tQ i h1,AB is h2];rfl
@[simp] def Hk (fo:FE)(fa:FA):FE:=λρ=>(fo ρ).bind λx=>(fa ρ).bind λds=>match x.1 with
 |.dt M vs=>if ds.length<=sizeLine then (jY ds).map λk=>((eU M vs k).getD .non,false)else none
 |_=>none
section
variable {X:Cx}{o:Expr}{es:QD}{pos:Pos}
theorem Hl {bQ bq O:Pos}{U:Nat}{fo:FE}{fa:FA}(hu:X.A.units+1<cLine)(ho:JE X o fo)(ha:JA X es fa)(m:M1 X o "get" bQ (.Tuple es U O) bq):JE X (.Call (.Attribute o "get" bQ) [.Tuple es U O] [] bq) (Hk fo fa):=by
 refine PE.to (xI hu ho (uE ha) m) λσ H Q q=>?_;obtain⟨B,ρ,d,bb,i,r,M,q⟩:=q;obtain⟨x,ex,M⟩:=oX M;obtain⟨ds,j,M⟩:=oX M;refine⟨B,ρ,x.1,x.2,i,r,ex,λv s N1 U i1 t=>?_⟩;obtain⟨xd,u⟩:=x;cases i1 with
 |@dt a ks vs w h hl hs=>
  simp only at M;split at M
  .rename_i hz;obtain⟨k,hk,M⟩:=oY M;cases M
   refine⟨a,rr,.inr ⟨_,.inl (U.nh _ _ h)⟩,N1,ρ,ds,U.nh,r.mono U.bn,j,λus H2 N2 c i2=>?_⟩;have hv:=AB i2 hk;have e:us.length<=sizeLine:=by rw[i2.length];exact hz
   refine⟨e,λp hp=>?_⟩;have b:=Ext.laid (o:=.tup us) c.nh hp;have f:=c.bn _ _ h;refine⟨jj _ k,.inr ⟨_,k,p,.inl (b.nh _ _ (b.bn _ _ f)),rr,by rw[aq,hv],rr⟩,?_⟩;have l:=(hs.mono c.bn).mono b.bn;rcases wv k hl l with⟨v,d',g,e2,n⟩|⟨g,e2⟩
   .rw[g];rw[e2]at q;exact(q.into ((U.trans c).trans b)).one b.nh n
   .rw[g];rw[e2]at q;exact(q.into ((U.trans c).trans b)).one b.nh .non
  .cases M
 |_=>simp at M
end
section
variable {K:Frag}{E:Ends}{σ:St}{H:Hp}
def BZ (i:Nat)(O:FA)(U:FE):FS:=λρ=>match ρ[i]? with
 |some (some (.dt ks vs,true))=>(U ρ).bind λv=>(O ρ).bind λkd=>(jY kd).bind λM=>if aI v.1=true/\ks.length<sizeLine/\kd.length<=sizeLine then some (.nx (ρ.set i (some (.dt (f6 ks M) (dc ks vs M v.1),true))))else none
 |_=>none
theorem Hm {i:Nat}{O:FA}{U:FE}(q:lE K (BZ i O U) E σ H):Bz (Fh i) (T4 (So K O)) (tD K U) E σ H:=by
 obtain⟨B0,H0,ρ,r,⟨N,s⟩,e,p⟩:=q;unfold BZ at e;split at e
 .rename_i ks ds ei;obtain⟨v,d,e⟩:=oX e;obtain⟨kd,ek,e⟩:=oX e;obtain⟨f,hk,e⟩:=oX e;split at e
  .rename_i hx;cases e
   refine⟨N,ρ,v.1,v.2,s.ext.nh,s.rep,d,λh j N1 g i1 _=>?_⟩;have s1:=s.grow g;obtain⟨a,o,h1,h2,h3,h4⟩:=s1.ow i _ ei;refine⟨.ref a,h1,N1,ρ,kd,s1.ext.nh,s1.rep,ek,λus H2 N2 b i2=>?_⟩;have s2:=s1.grow b;have hv:=AB i2 hk;refine⟨by rw[i2.length];exact hx.2.2,λpp hp=>?_⟩;have c:=Ext.laid (o:=.tup us) s2.ext.nh hp;have M:=s2.grow c;obtain⟨k,o',k1,k2,k3,k4⟩:=M.ow i _ ei;rw[h1]at k1;cases k1
   cases k4 with
   |@dt ks vs ds hl h5=>
    refine⟨a,rr,.inr ⟨_,f,pp,M.ext.nh _ _ k2,rr,by rw[aq,hv],?_,?_⟩⟩
    .rw[length_zip];lia
    .rw[p9 hl];exact p σ _ ⟨_,M.writeB ei h1 (.dt (lU hl _ _) (h5.put (M.flat ((i1.mono b.bn).mono c.bn) hx.1)))⟩
  simp_all
 simp_all
end
section
variable {X:Cx}{pos:Pos}{e:Expr}{es:QD}
theorem Ms (hu:X.A.units+1<cLine)(hv:JE X e fv)(hk:JA X es fk)(U:X.N[i]? = some y)(M:Fg X.env.scope y)(hd:(y == ("__debug__" : Str))=false)
  (O:(y == ("__classdict__" : Str))=false) (hs:swapsWith e (some (.Subscript (.Name y py) (.Tuple es x1 RI) pt)) pos.line X.env=pure false):JS X (.Assign [.Subscript (.Name y py) (.Tuple es x1 RI) pt] e pos) (BZ i fk fv):=
 PS.to (ve hu (iB U M hd O) (uE hk) hv hs) λ_ _ _ q=>Hm q
end
end DL
namespace L2
open PySem PySem.Spec PyProof.Rows
noncomputable def X7 (a:Addr)(a7:List (di×V))(ob:Obj):It:=⟨λi H=>H a=some (.dK a7 ob)/\i<a7.length,λi H x H'=>H'=H/\∃k,a7[i]? = some (k,x),λi H=>H a=some (.dK a7 ob)/\a7.length<=i⟩
theorem KV.get {a7:List (di×V)}{vs:List (di×Value)}(r:KV a7 vs){i:Nat}{k:di}{x:V}(h:a7[i]? = some (k,x)):∃u,vs[i]? = some (k,u)/\aG x u:=by
 induction r generalizing i with
 |nil=>simp at h
 |@cons p q ps U hq t M=>
  cases i with
  |zero=>
   cases (show p=(k,x)from vK h)
   obtain⟨O,q2⟩:=q;exact⟨q2,by rw[show k=O from hq.1];rfl,hq.2⟩
  |succ i=>exact M h
theorem UH (h:(cc P w).is k u=true):aG (kV k) u:=by
 cases k with
 |inl i=>exact Value.isInt_shape h
 |inr z=>exact Value.isStrOf_shape h
section
variable {P:Program}{w:World}{H:Hp}{h:Heap}{a:Addr}
theorem qA (ok:kq P w H h)(e:H a=some (.dK a7 ob))(hd:ob.data=.dict es U):∃vs,KV a7 vs/\h.DictAt (cc P w) a vs U:=by
 obtain⟨_,_,vs,r,o,M,O,h1,h2,h3,h4⟩:=pN ok e;rw[Ad ok e]at h1;cases h1
 rw[hd]at h3;cases h3
 exact⟨vs,r,ob,es,Ad ok e,h2,hd,h4⟩
theorem wx (ok:kq P w H h)(e:H a=some (.dK a7 ob)):∃es M,ob.data=.dict es M:=by
 obtain⟨_,_,vs,r,o,O,U,h1,h2,h3,h4⟩:=pN ok e;rw[Ad ok e]at h1;grind
end
theorem Em {P:Program}{w:World}{K:Frag}{tg:Expr}(a it:Addr)(a7:List (di×V))(ob:Obj){es:Array DictEntry}{t:Nat}(hd:ob.data=.dict es t):Turn P w K tg (X7 a a7 ob) [it] it (λi h=>h.IsValIter it a i a7.length t) where
 mem:=V9
 obj:=λi h st b hb=>by
  have e:b=it:=by simpa using hb
  subst e;obtain⟨o,e,c,d⟩:=st;simp_all
 keep:=λi h h' st k=>st.at λo e=>k it V9 o e
 item:=by
  intro X U hw f hc i af s σ H E I hf st g;subst U hw f;obtain⟨j,O⟩:=g;obtain⟨vs,r,m⟩:=qA I.hok j hd;obtain⟨l,f1,f2,n,p,q⟩:=hf it V9;have hl:vs.length=a7.length:=(Paired.length r).symm;obtain⟨u,hu,ru⟩:=r.get (k:=a7[i].1) (x:=a7[i].2) (vU O);refine wpAny_pyNext_values_item (by rw[hl];exact st) m hu λh' M v=>?_;rw[hl]at M;have y:=I.turned (t':=s.toks) (λb o hb e=>(v.2 b hb).trans e) l f1 n p q;obtain⟨o,e,c,d⟩:=id M;exact⟨u,rr,pH (s:={ s with heap:=h' }) e c d Z9 ⟨a7[i].2,H,y,ru,⟨rr,a7[i].1,vU O⟩,M,λb hb=>(hf b hb).1⟩⟩
 done:=by
  intro X U hw f hc i af s σ H E I hf st g;subst U hw f;obtain⟨j,A⟩:=g;obtain⟨vs,r,m⟩:=qA I.hok j hd;obtain⟨l,f1,f2,n,p,q⟩:=hf it V9;have hl:vs.length=a7.length:=(Paired.length r).symm;exact wpAny_pyNext_values_end (I.ok.hd hc) (by rw[hl];exact st) m (getElem?_eq_none N9) λh' z=>⟨rr,I.turned (t':=s.toks) (λb o hb e=>z b o hb e) l f1 n p q⟩
 self:=λ_ _ _ _ _ st h=>wpAny_pyIter_valiter st h
section
variable {X:Cx}{tg:Expr}
def UI (O:TE):TI:=λσ H R=>O σ H λx M=>∃a a7 ob,x=.ref a/\M a=some (.dK a7 ob)/\R (X7 a a7 ob) M
theorem Mt {o:Expr}{f:TE}{bQ bq:Pos}(ho:PE X o f)(M:attributeBase o "values" X.env (eval o X.env)=eval o X.env:=by rfl)(O:(bQ.endLine == bq.line)=true:=by rfl):PI X tg (.Call (.Attribute o "values" bQ) [] [] bq) (UI f):=by
 intro af s σ H R I h;refine wpAny_Call_method0_late M O (bJ (ho af s σ H _ I h) λv s1 ⟨x,g,U,i,a,a7,ob,ex,c,q⟩=>?_);subst ex;obtain⟨h1,h2⟩:=uL U i (T:="dict") (.inr (.inr (.inl ⟨rr,.inl ⟨a7,ob,c⟩⟩)));cases i
 obtain⟨es,j,hd⟩:=wx U.hok c;obtain⟨vs,r,m⟩:=qA U.hok c hd;have hl:=(Paired.length r).symm;refine⟨"dict","dict.values",plainAttrs_dict,PySem.F.slot_dict_values,PySem.F.type_dict_values,h1,h2,Calls.callWith_builtin rr (PySem.evalArgs_none ?_)⟩;refine call_meetsIn PySem.F.slot_dict_values h1 PySem.F.entry_dict_values (PySem.F.args_dict_values_1 _) (meets_dict_values _ a (pN U.hok c).2.1) ⟨⟨vs,m.dictOf⟩,?_⟩;have d:Inv X af σ g { s1 with heap:=s1.heap.push { cls:=.type "dict_values",data:=.fields #[.ref a] } }:=U.kept λb o e=>vZ _ e;refine wpAny_pyIter_values ⟨_,vY _ rr,rr,rr⟩ (m.keep λb o e=>vZ _ e) ?_;rw[hl];refine⟨(s1.heap.push _).objs.size,[(s1.heap.push _).objs.size],_,_,g,rr,d.kept λb o e=>vZ _ e,Em a _ a7 ob hd,⟨_,vY _ rr,rr,rr⟩,λb hb=>?_,q⟩;have e:b=(s1.heap.push { cls:=.type "dict_values",data:=.fields #[.ref a] }).objs.size:=by simpa using hb
 subst e;exact d.fpOk (vT _) (d.hok.fresh (vT _))
end
end L2
namespace DL
open PySem PySem.Spec PySem.W PyProof.Rows L2
noncomputable def kD:di->D
 |.inl i=>.int i
 |.inr z=>.str z
theorem UJ {K:Frag}{B:Hp}(k:di):Is K B (kV k) (kD k):=by
 cases k with
 |inl i=>exact .int i
 |inr z=>exact .str z
section
variable {K:Frag}{B:Hp}
theorem Mu {a:Addr}{ks:LK}{vs:LV}{ds:LD}{ob:Obj}(h:B a=some (.dK (ks.zip vs) ob))(hl:ks.length=vs.length)(hs:IsL K B vs ds):lF K (X7 a (ks.zip vs) ob) B ds:=by
 intro i H s;have hz:(ks.zip vs).length=vs.length:=by rw[length_zip];lia
 refine⟨λd ed=>?_,λM=>⟨s _ _ h,by rw[hz,hs.length];exact M⟩⟩;obtain⟨v,U,iv⟩:=hs.get ed;have O:=(vV U).1;refine⟨⟨s _ _ h,by rw[hz];exact O⟩,λy b hy=>?_⟩;obtain⟨rfl,k,e⟩:=hy;have:=(getElem?_zip_eq_some.mp e).2;rw[U]at this;cases this
 exact⟨B,.refl s,iv⟩
end
section
variable {X:Cx}{e:Expr}{tg:Expr}
@[simp] noncomputable def wy (f:FE):FA:=λρ=>(f ρ).bind λx=>match x.1 with|.dk _ ds=>some ds|_=>none
theorem Mv (h:JE X e f)(M:attributeBase e "values" X.env (eval e X.env)=eval e X.env)(O:(bQ.endLine == bq.line)=true):JI X tg (.Call (.Attribute e "values" bQ) [] [] bq) (wy f):=by
 intro af s σ H R I q;obtain⟨B,ρ,ds,b,r,c,q⟩:=q;obtain⟨⟨xd,g⟩,ex,es⟩:=oX c;cases xd<;>try (cases es;done)
 cases es
 refine Mt h M O _ s σ H R I ⟨B,ρ,_,_,b,r,ex,λv d N1 U i1 _=>?_⟩;cases i1 with
 |@dk a ks vs ds ob hd hl hs=>exact⟨a,_,ob,rr,U.nh _ _ hd,q _ d N1 U (Mu hd hl hs)⟩
end
end DL
namespace DL
open PySem PySem.Spec PyProof.Rows L2
@[simp] abbrev jw (i:Nat)(j:Int):FE:=f2 eG (am i) (fC (.int j))
theorem UK (F:Fn X.prog X.w X.K X.mg X.base k x f)(hr:cV j X.A)(ha:JA X (e::es) fa)(hj:k<=j)(U:Gl X x)(M:(x == ("__debug__" : Str))=false)(he:starEach (e::es) X.env=(false,eval e X.env)::starEach es X.env)(O:(backTo pos (starEach es X.env)).any (·.1)=false):JE X (.Call (.Name x p) (e::es) [] pos) (fA f fa):=LB F (hr.mono hj) ha U M he O
theorem Mw (h1:∀y∈scope.names,y.2≠.cell:=by decide +kernel)(h2:scope.kind=.function:=by rfl)(h3:∀y∈scope.names,y.2=.local->scope.names.lookup y.1=some .local:=by decide +kernel)(M:(scope.names.all λy=>!(y.2 == NameKind.free) || (X.env.cells.lookup y.1).isSome)=true:=by rfl):CompSc X scope (cZ scope.names X.env.cells []):=Pw h1 h2 h3 M
end DL
namespace DL
open PySem PySem.Spec PySem.W PyProof.Rows L2
noncomputable def qB:At->D
 |.i n=>.int n
 |.s z=>.str z
section
variable {prog:Program}{w:World}{A:Around}{E:QV}{s:Shared}
theorem UL (hx:zL x u)(hy:zL y v):SeqAt.EqAt A s u v (cJ (qB x) (qB y)):=by
 cases x with
 |i a=>
  obtain⟨t,rfl⟩:=hx;cases y with
  |i c=>obtain⟨t',rfl⟩:=hy;exact SeqAt.EqAt.int_int _ _ _ _
  |s c=>obtain⟨t',rfl⟩:=hy;exact SeqAt.EqAt.int_str _ _ _ _
 |s a=>
  obtain⟨t,rfl⟩:=hx;cases y with
  |i c=>obtain⟨t',rfl⟩:=hy;exact SeqAt.EqAt.str_int _ _ _ _
  |s c=>obtain⟨t',rfl⟩:=hy;exact SeqAt.EqAt.str_str _ _ _ _
theorem Ca:∀ {xs ys:List At}{vs:LU},Paired zL xs vs->Paired zL ys vs->xs=ys
 |_,_,_,.nil,.nil=>rr
 |x::xs,y::ys,_,.cons p ps,.cons q M=>by
  rw[Ca ps M];cases x with
  |i a=>
   obtain⟨t,rfl⟩:=p;cases y with
   |i c=>obtain⟨t',e⟩:=q;cases e;rfl
   |s c=>obtain⟨t',e⟩:=q;cases e
  |s a=>
   obtain⟨t,rfl⟩:=p;cases y with
   |i c=>obtain⟨t',e⟩:=q;cases e
   |s c=>obtain⟨t',e⟩:=q;cases e;rfl
theorem Q6 (x y:At):cJ (qB x) (qB y)=true↔x=y:=by
 cases x<;>cases y<;>simp[qB]
theorem pA:∀xs ys:List At,gS (xs.map qB) (ys.map qB)=true↔xs=ys
 |[],[]=>by simp
 |[],_::_=>by simp
 |_::_,[]=>by simp
 |x::xs,y::ys=>by
  rw[uX,uX,gS,vB,Q6,pA xs ys];simp
theorem Q7 (hx:dB s.heap xs x)(hy:dB s.heap ys y)(hu:A.units<cLine):SeqAt.EqAt A s x y (gS (xs.map qB) (ys.map qB)):=by
 obtain⟨a,o,its,n,rfl,ho,hc,hd,r⟩:=hx;obtain⟨b,o',M,m,rfl,O,U,f,e⟩:=hy;by_cases c:a=b
 .grind[Ca,pA,SeqAt.EqAt.same]
 .have g:s.heap.IsTuple a its:=⟨o,ho,hc,n,hd⟩;have h:s.heap.IsTuple b M:=⟨o',O,U,m,f⟩;have l1:xs.length=its.size:=by exact dr r
  have l2:ys.length=M.size:=by exact dr e
  have he:∀j (h1:j<its.size) (h2:j<M.size),SeqAt.EqAt A.in1 s its[j] M[j] (cJ ((xs.map qB).getD j .non) ((ys.map qB).getD j .non)):=λj h1 h2=>by
   have p:=du (.i 0) Value.none r (i:=j) N9;have q:=du (.i 0) Value.none e (i:=j) N9;have d:its.toList.getD j Value.none=its[j]:=by simp_all
   have e2:M.toList.getD j Value.none=M[j]:=by simp_all
   rw[d]at p;rw[e2]at q;have k:(xs.map qB).getD j .non=qB (xs.getD j (.i 0)):=by simp_all
   have l:(ys.map qB).getD j .non=qB (ys.getD j (.i 0)):=by simp_all
   rw[k,l];exact UL p q
  have rc:=SeqAt.RcAt.tuples g h hu he;have t:((List.range (min its.size M.size)).all (λj=>cJ ((xs.map qB).getD j .non) ((ys.map qB).getD j .non)) && its.size == M.size)=gS (xs.map qB) (ys.map qB):=by
   rw[<-l1,<-l2];by_cases hl:xs.length=ys.length
   .rw[<-hl,Nat.min_self,beq_self_eq_true,Bool.and_true];have:=iE _ (xs:=xs.map qB) (ys:=ys.map qB) (by simpa using hl) λj x y d e2=>vq j x y d e2;rwa [vH]at this
   .rw[vp (by simpa using hl),beq_eq_false_iff_ne.mpr hl,Bool.and_false]
  rw[t]at rc;exact SeqAt.EqAt.of_refs c rc
theorem En (xs:List At):aR xs xs=some false:=by
 induction xs with
 |nil=>rfl
 |cons x xs M=>cases x<;>rw[aR,if_pos rr,M]
theorem Hn (hx:dB s.heap xs x)(hy:dB s.heap ys y)(h:aR (.i n::xs) (.i m::ys)=some b)(hu:A.units<cLine)(q:Q b s)(hn:zL (.i n) u)(hm:zL (.i m) v):KatLex prog w A true false Q [(u,v),(x,y)] 0 s:=by
 obtain⟨t,rfl⟩:=hn;obtain⟨t',rfl⟩:=hm;refine kat_cons (wpAny_eqBool_int ?_);rw[aR]at h;by_cases e:n=m
 .rw[if_pos e]at h;rw[show(n == m)=true by simp[e]];refine kat_yes (kat_cons (Q7 hx hy hu _ _ _ _ ?_));by_cases e2:xs=ys
  .grind[pA,En,kat_yes,kat_nil]
  .rw[Bool.eq_false_iff.mpr λz=>e2 ((pA xs ys).mp z)];refine kat_no (kat_one _ _ ?_);exact GS hx hy h hu (by first|exact q|exact⟨b,rr,q⟩)
 .rw[if_neg e]at h;cases h
  rw[show(n == m)=false by simp[e]];exact kat_no (oneLt_int q)
end
def Eo (h:Heap)(xs:List At)(v:Value):Prop:=∃n k a o its m u x,xs=.i n::k/\v=.ref a/\h.get? a=some o/\o.cls=.type "tuple"/\o.data=.seq its m/\its.toList=[u,x]/\zL (.i n) u/\dB h k x
section
variable {prog:Program}{w:World}{A:Around}{E:QV}{s:Shared}
theorem Mx (hx:Eo s.heap xs x)(hy:Eo s.heap ys y)(h:aR xs ys=some b)(hu:A.units<cLine)(q:Q b s):wpAny (model prog w) A (keyLt' (tuples' true) x y) Q E s:=by
 obtain⟨n,k,a,o,its,m,u,e,rfl,rfl,ho,_,hd,ei,an,d⟩:=hx;obtain⟨f,k',g,o',its',i,j,l,rfl,rfl,O,_,U,M,c,ty⟩:=hy;refine kat_lt ho hd O U ?_;rw[ei,M];have hf:decide (its.size<its'.size)=false:=by
  rw[<-vF,<-vF,ei,M];rfl
 rw[hf];exact Hn d ty h hu q an c
theorem o4:∀ {ks:List (List At)}{vs:LU},Paired (Eo h) ks vs->∃fs,KatTups h vs fs/\fs.length=ks.length/\∀v∈fs,∃n,zL (.i n) v
 |_,_,.nil=>⟨[],trivial,rr,V9⟩
 |k::ks,_,.cons x t=>by
  obtain⟨fs,h1,h2,h3⟩:=o4 t;obtain⟨n,k,a,o,its,m,u,M,rfl,rfl,ho,hc,hd,ei,an,_⟩:=x;refine⟨u::fs,KatTups.cons ho hc hd (by rw[<-Array.getElem?_toList,ei];rfl) h1,by simp[h2],λv hv=>?_⟩;grind
theorem Ep (hp:Paired (Eo s.heap) ks vs)(hn:0<ks.length)(q:Q (tuples' true) s):wpAny (model prog w) A (keyKind' vs.toArray) Q E s:=by
 obtain⟨fs,h1,h2,h3⟩:=o4 hp;refine kat_kind (T:=.type "int") h1 N9 (λv hv=>?_) Z9 q;obtain⟨n,t,rfl⟩:=h3 v hv;exact .now
theorem Ho (hc:cr ks=true)(hu:A.units<cLine)(hp:Paired (Eo s.heap) ks vs):∀(i j:Nat)(C:Bool->Shared->Prop)(s1:Shared),i<ks.length->j<ks.length->s1=s->(∀s',s'=s->C (qk (zM ks) i j) s')->kas_ask prog w A (tuples' true) vs i j C s1:=by
 intro i j C s1 hi hj e O;subst e;have M:ks.getD i []∈ks:=by simp_all
 have U:ks.getD j []∈ks:=by simp_all
 refine Mx (du [] _ hp hi) (du [] _ hp hj) (fD hc M U) hu ?_;have:=O s1 rr;unfold qk zM at this;rw[yu (uR ⟨_,M,rr⟩)]at this;exact this
end
def Q8:D->Option (List At)
 |.tup [.int n,.tup es]=>(iK es).map (.i n :: ·)
 |_=>none
def kK:LD->Option (List (List At))
 |[]=>some []
 |d::ds=>(Q8 d).bind λa=>(kK ds).map (a :: ·)
theorem tT:∀ {ds:LD}{ks:List (List At)},kK ds=some ks->ks.length=ds.length
 |[],_,h=>by simp_all[kK]
 |d::ds,_,h=>by
  obtain⟨a,h1,h⟩:=oX h;obtain⟨r,h2,h⟩:=oY h;subst h;simp[tT h2]
theorem yB (I:Inv X af σ H s):∀ {ys:LV}{ds:LD}{ks:List (List At)}{its:LU},aF ys its->IsL X.K H ys ds->kK ds=some ks->Paired (Eo s.heap) ks its
 |_,_,_,_,.nil,.nil,h=>by cases h;exact .nil
 |_,_,_,_,.cons r b,.cons i c,h=>by
  obtain⟨a,h1,h⟩:=oX h;obtain⟨t,h2,h⟩:=oY h;subst h;refine .cons ?_ (yB I b c h2);unfold Q8 at h1;split at h1
  .rename_i n es;obtain⟨k,O,rfl⟩:=oY h1;cases i with
   |tup hq hl=>
    cases r
    obtain⟨its',M,⟨o,ho,hc,m,hd⟩,_⟩:=I.tuple hq;cases hl with
    |cons i1 hl=>
     cases hl with
     |cons i2 hl=>
      cases hl
      cases M with
      |cons d M=>
       cases M with
       |cons e M=>
        cases M
        cases i1
        have hk:da [D.tup es]=some [k]:=by show(iK es).bind _=_;rw[O];rfl
        have U:=lR I (.cons e .nil) (.cons i2 .nil) hk;cases U with
        |cons U _=>exact⟨n,k,_,o,_,m,_,_,rr,rr,ho,hc,hd,rr,d,U⟩
  simp_all
theorem My (hu:A.units<cLine):KK X A kK λ_=>true:=⟨tT,λI _ _ _ _ r i e _ hc=>have hp:=yB I r i e;⟨λhn _ _ q=>Ep hp hn q,Ho hc hu hp⟩⟩
theorem Hq (hu:X.A.units+40<cLine):KK X X.A.in1.in1 kK λ_=>true:=My N9
@[simp] abbrev AD:FE->(Env->D->Option D)->FE:=wt kK λ_=>true
end DL
namespace DL
open PySem PySem.Spec PyProof.Rows L2
def UM:Nat->(LU->Prop)->Prop
 |0,P=>P []
 |n+1,P=>∀a,UM n λl=>P (a::l)
theorem Q9:∀n P,UM n P->∀us:LU,us.length=n->P us
 |0,_,h,[],_=>h
 |n+1,_,h,a::us,e=>Q9 n _ (h a) us (Nat.succ.inj e)
section
variable {P:Program}{w:World}{K:Frag}{mg:SV}{base:Heap}
def KC (K:Frag)(mg:SV)(x:Str)(c:D):Prop:=∃u v,mg x=some u/\aG v u/\∀B,Is K B v c
def KD (w:World)(K:Frag)(mg:SV)(x:Str)(c:List (Str×D)):Prop:=∃d,mg x=some (.ref d)/\lM K w.params d c
theorem kc_of {x:Str}{c:D}{h:Heap}(X:K.In h)(G:h.Ns mainGlobals mg)(k:∃u v,nsIn K mainGlobals x=some (some u)/\aG v u/\∀B,Is K B v c):KC K mg x c:=let ⟨u,v,e,r⟩:=k;⟨u,v,mg_of X G e,r⟩
theorem kd_of {x:Str}{c:List (Str×D)}{h:Heap}(X:K.In h)(G:h.Ns mainGlobals mg)(k:∃d,nsIn K mainGlobals x=some (some (.ref d))/\lM K w.params d c):KD w K mg x c:=let ⟨d,e,r⟩:=k;⟨d,mg_of X G e,r⟩
theorem bM.fqL {x:Str}{st:Stmt}{k:Nat}{O:LD->OB}(F:bM K x st)(B:∃h,K.In h/\h.Ns mainGlobals mg)(g:FS)(N:LS)(n:Nat)
  (hb:∀ {f:Addr}{cW:Value}{A:Around}{outer:List PySem.Env}{s:Shared}{H:Hp}{E:XK},N.Nodup->cV k (A.deeper (envOfC x (a8 st) s.z f cW))->(A.deeper (envOfC x (a8 st) s.z f cW)).units+40<cLine->(∀c P,PySem.W.tabIn K x=some (c,P)->cW=.ref c)->xx (oZ xE P w K mg base N x (a8 st) f cW A outer s H E).nox (bC st) g)
  (S:FnScope N (N.take n) (a8 st):=by refine⟨rr,rr,rr,?_,rr,?_,?_⟩<;>decide +kernel)
  (M:∀(kV doc pm:Value)(an:Option Addr)(cW ct:Value)(us:LU),us.length=(N.take n).length->bindArgs (fnOf x x (eF st) (bC st) (a8 st) .none kV doc pm an cW ct) ⟨us,[]⟩=pure ((N.take n).zip us):=by
   exact λ_ _ _ _ _ _=>Q9 _ _ (by(repeat intro);rfl))
  (e:ax g (N.take n).length (N.length - (N.take n).length)=O:=by rfl):
  Fn P w K mg base (k+1) x O:=let ⟨_,X,G⟩:=B;e ▸ F.fnL X G S M λ_ _ _ _ _ _ _ hc hr=>hb S.nd hr (lJ hr) hc
end
section
variable {X:Cx}{x:Str}{pos:Pos}
theorem pgV (i:Nat)(M:X.N.Nodup)(hi:X.N[i]? = some x)(hx:K6 X.env.scope x)(hf:X.fn x=true\/X.env.scope.names.lookup x=some .local):PG X (.Name x pos) (gQ i):=Bo M hi hx hf
theorem UN (N':LS)(hi:JI X tg dC fi)(hc:∀ {C s H fp},JC (gG X N' scope (cZ scope.names X.env.cells []) C s H fp) u8 fc)(he:∀ {C s H fp},JE (gG X N' scope (cZ scope.names X.env.cells []) C s H fp) xu fe)
  (O:Lz X.K nT sn g) (U:∀ {C s H fp},PG (gG X N' scope (cZ scope.names X.env.cells []) C s H fp) tg g)
  (cp:ly X N' scope (cZ scope.names X.env.cells []) nT cap)
  (S:CompSc X scope (cZ scope.names X.env.cells [])) (M:X.calm=true)
  (hs:∀x,foldedSetIterable dC X.env x=pure x):
  JE X (.ListComp xu [⟨tg,dC,u8,0⟩] scope pos) (fw fi nT cap sn fc fe):=L0 M S cp hi (λ_ _ _ _=>U) O (λ_ _ _ _=>hc) (λ_ _ _ _=>he) hs
theorem UO (N':LS)(a:X.N.Nodup)(hi:JI X tg dC fi)(hc:∀ {C s H fp},JC (gG X N' scope (cZ scope.names X.env.cells []) C s H fp) u8 fc)(he:∀ {C s H fp},JE (gG X N' scope (cZ scope.names X.env.cells []) C s H fp) xu fe)
  (O:Lz X.K nT sn g) (b:∀ {C s H fp},PG (gG X N' scope (cZ scope.names X.env.cells []) C s H fp) tg g)
  (cp:ly X N' scope (cZ scope.names X.env.cells []) nT cap)
  (U:X.N[i]? = some y) (hy:X.env.kindOf y=some .local)
  (c:swapsWith (.ListComp xu [⟨tg,dC,u8,0⟩] scope pos) (some (.Name y py)) spos.line X.env=pure true)
  (S:CompSc X scope (cZ scope.names X.env.cells [])) (M:X.calm=true)
  (hs:∀x,foldedSetIterable dC X.env x=pure x):
  JS X (.Assign [.Name y py] (.ListComp xu [⟨tg,dC,u8,0⟩] scope pos) spos) (cP i (fw fi nT cap sn fc fe)):=L1 M a U hy c S cp hi (λ_ _ _ _=>b) O (λ_ _ _ _=>hc) (λ_ _ _ _=>he) hs
theorem UP (hi:JI X tg dC fi)(M:PG X tg t)(O:K9 X.K sn t)(hb:xx X U g)(hp:PassesOwn (model X.prog X.w) X.A X.env X.xe)(hc:X.calm=true)
  (hs:∀x,foldedSetIterable dC X.env x=pure x):JS X (.For tg dC U [] pos) (vi fi sn g):=PX hp hc hi M O hb hs
theorem UQ (hi:PI X tg dC (TM X.K fi))(M:PG X tg t)(O:K9 X.K sn t)(hb:xx X U g)(hp:PassesOwn (model X.prog X.w) X.A X.env X.xe)(hc:X.calm=true)
  (hs:∀x,foldedSetIterable dC X.env x=pure x):JS X (.For tg dC U [] pos) (t0 fi sn g):=LA hp hc hi M O hb hs
end
end DL
namespace DL
open PySem PySem.Spec PySem.W PyProof.Rows L2
theorem qC:entryFor table "dict_itemiterator.__iter__" = some Builtin.«dict_keyiterator.__iter__»:=entryFor_alias (id':="dict_keyiterator.__iter__") W9 rr H9 W9
theorem wz (he:IsItemIter s.heap it d i n O ok U)(h:Q (.ref it) s):wpAny (model prog w) A (pyIter (.ref it)) Q E s:=by
 have M:s.TypeIs (.ref it) _:=⟨_,he,rr⟩;refine wpAny_pyIter_slot M PySem.F.slot_dict_itemiterator_iter (wpAny_call_entry PySem.F.slot_dict_itemiterator_iter M qC ?_ (PySem.F.args_dict_itemiterator_iter_1 _));exact wY ⟨_,rr,"dict_itemiterator",_,M,PySem.F.slot_dict_itemiterator_next.lookup,h⟩
noncomputable def X8 (a:Addr)(a7:List (di×V))(ob:Obj):It:=⟨λi H=>H a=some (.dK a7 ob)/\i<a7.length,λi H y H'=>∃T k v,y=.ref T/\H T=none/\H'=upd H T (.tup [kV k,v])/\a7[i]? = some (k,v),λi H=>H a=some (.dK a7 ob)/\a7.length<=i⟩
theorem AE {P:Program}{w:World}{K:Frag}{es:QD}{n:Nat}{pt:Pos}(a it:Addr)(a7:List (di×V))(ob:Obj){ds:Array DictEntry}{j:Nat}(hd:ob.data=.dict ds j):Turn P w K (.Tuple es n pt) (X8 a a7 ob) [it] it (λi h=>∃ok M,IsItemIter h it a i a7.length j ok M) where
 mem:=V9
 obj:=λi h st b hb=>by
  grind
 keep:=λi h h' st k=>let ⟨ok,M,e⟩:=st;⟨ok,M,k it V9 _ e⟩
 item:=by
  intro X c hw d hc i af s σ H E I hf st f;subst c hw d;obtain⟨ok,M,he⟩:=st;obtain⟨g,O⟩:=f;obtain⟨vs,r,m⟩:=qA I.hok g hd;have hl:=(Paired.length r).symm;obtain⟨u,hu,ru⟩:=r.get (k:=a7[i].1) (x:=a7[i].2) (vU O);have fresh:=I.hok.fresh (vT _);have p:=vS (vX he);refine wpAny_pyNext_items_item (by rw[hl];exact he) m hu λkey h' U ho t hsz hk=>?_;rw[hl]at ho;refine⟨_,rr,wpAny_letOwnedTupleGo_items ho λh2 v s2=>?_⟩;have l:Heap.SameBut it h' h2:=s2;have y:∀b o,b∉[it]->s.heap.get? b=some o->h2.get? b=some o:=λb o hb q=>l.extBut _ _ (λz=>hb (by simp[z])) (hk b o (λz=>hb (by simp[z])) q);have new:bc X.prog X.w (upd H s.z (.tup [kV a7[i].1,a7[i].2])) h2 s.z (.tup _):=⟨by show 2<=sizeLine;decide,[key,u],.cons (UH U) (.cons ru .nil),⟨_,l.extBut _ _ p.symm t,rr,_,rr⟩⟩;refine⟨.ref s.z,upd H s.z _,BG (s:=s) (t':=s.toks) I hf y (vT _) new,rr,⟨_,a7[i].1,a7[i].2,rr,fresh,rr,vU O⟩,⟨_,_,v⟩,λb hb=>?_⟩;have A:b≠s.z:=by
   simp_all
  rw[a6 A];exact(hf b hb).1
 done:=by
  intro X c hw d hc i af s σ H E I hf st f;subst c hw d;obtain⟨ok,M,he⟩:=st;obtain⟨g,B⟩:=f;obtain⟨vs,r,m⟩:=qA I.hok g hd;have hl:=(Paired.length r).symm;exact wpAny_pyNext_items_end (I.ok.hd hc) (by rw[hl];exact he) m (getElem?_eq_none N9) λh' hk=>⟨rr,jV (t':=s.toks) I hf λb o hb q=>hk b o (λz=>hb (by simp[z])) q⟩
 self:=λ_ _ _ _ _ st h=>let ⟨_,_,he⟩:=st;wz he h
section
variable {X:Cx}{es:QD}{kt:Nat}{pt:Pos}{e:Expr}
def X9 (O:TE):TI:=λσ H R=>O σ H λx M=>∃a a7 ob,x=.ref a/\M a=some (.dK a7 ob)/\R (X8 a a7 ob) M
theorem Hr {o:Expr}{f:TE}{bQ bq:Pos}(ho:PE X o f)(M:attributeBase o "items" X.env (eval o X.env)=eval o X.env:=by rfl)(O:(bQ.endLine == bq.line)=true:=by rfl):PI X (.Tuple es kt pt) (.Call (.Attribute o "items" bQ) [] [] bq) (X9 f):=by
 intro af s σ H R I h;refine wpAny_Call_method0_late M O (bJ (ho _ s σ H _ I h) λv s1 ⟨x,g,U,i,a,a7,ob,ex,c,q⟩=>?_);subst ex;obtain⟨h1,h2⟩:=uL U i (.inr (.inr (.inl ⟨rr,.inl ⟨a7,ob,c⟩⟩)));cases i
 obtain⟨es,j,hd⟩:=wx U.hok c;obtain⟨vs,r,m⟩:=qA U.hok c hd;have hl:=(Paired.length r).symm;refine⟨"dict","dict.items",plainAttrs_dict,PySem.F.slot_dict_items,PySem.F.type_dict_items,h1,h2,Calls.callWith_builtin rr (PySem.evalArgs_none ?_)⟩;refine call_meetsIn PySem.F.slot_dict_items h1 PySem.F.entry_dict_items (PySem.F.args_dict_items_1 _) (meets_dict_items _ a (pN U.hok c).2.1) ⟨⟨vs,m.dictOf⟩,?_⟩;have d:Inv X af σ g { s1 with heap:=s1.heap.push { cls:=.type "dict_items",data:=.fields #[.ref a] } }:=U.kept λb o e=>vZ _ e;refine wpAny_pyIter_items ⟨_,vY _ rr,rr,rr⟩ (m.keep λb o e=>vZ _ e) ?_;rw[hl];refine⟨(s1.heap.push _).objs.size,[(s1.heap.push _).objs.size],_,_,g,rr,d.kept λb o e=>vZ _ e,AE a _ a7 ob hd,⟨_,_,vY _ rr⟩,λb hb=>?_,q⟩;have e:b=(s1.heap.push { cls:=.type "dict_items",data:=.fields #[.ref a] }).objs.size:=by simpa using hb
 subst e;exact d.fpOk (vT _) (d.hok.fresh (vT _))
noncomputable def lm (ks:LK)(ds:LD):LD:=(ks.zip ds).map λx=>.tup [kD x.1,x.2]
theorem Hs {K:Frag}{B:Hp}{a:Addr}{ks:LK}{vs:LV}{ds:LD}{ob:Obj}(h:B a=some (.dK (ks.zip vs) ob))(hl:ks.length=vs.length)(hs:IsL K B vs ds):lF K (X8 a (ks.zip vs) ob) B (lm ks ds):=by
 intro i H s;have hz:(ks.zip vs).length=vs.length:=by rw[length_zip];lia
 have hn:=hs.length;refine⟨λd ed=>?_,λO=>⟨s _ _ h,by simp_all[lm]⟩⟩;unfold lm at ed;rw[uZ]at ed;obtain⟨⟨k0,d0⟩,ek,rfl⟩:=oY ed;obtain⟨f,e2⟩:=getElem?_zip_eq_some.mp ek;obtain⟨v,U,iv⟩:=hs.get e2;have M:=(vV U).1;refine⟨⟨s _ _ h,by rw[hz];exact M⟩,λy l hy=>?_⟩;obtain⟨T,k,g,rfl,j,rfl,e⟩:=hy;obtain⟨g1,b⟩:=getElem?_zip_eq_some.mp e;rw[f]at g1;cases g1;rw[U]at b;cases b;have c:=Ext.laid (o:=.tup [kV k0,g]) s j;exact⟨_,c,.tup (fL.of aq) (.cons (UJ _) (.cons (iv.mono c.bn) .nil))⟩
@[simp] def Cb (f:FE):FA:=λρ=>(f ρ).bind λx=>match x.1 with|.dk ks ds=>some (lm ks ds)|_=>none
theorem Ht (h:JE X e f)(M:attributeBase e "items" X.env (eval e X.env)=eval e X.env)(O:(bQ.endLine == bq.line)=true):JI X (.Tuple es kt pt) (.Call (.Attribute e "items" bQ) [] [] bq) (Cb f):=by
 intro af s σ H R I q;obtain⟨B,ρ,ds,b,r,c,q⟩:=q;obtain⟨⟨xd,g⟩,ex,es⟩:=oX c;cases xd<;>try (cases es;done)
 cases es
 refine Hr h M O _ s σ H R I ⟨B,ρ,_,_,b,r,ex,λv d N1 U i1 _=>?_⟩;cases i1 with
 |@dk a ks vs ds ob hd hl hs=>exact⟨a,_,ob,rr,U.nh _ _ hd,q _ d N1 U (Hs hd hl hs)⟩
end
section
variable {K:Frag}{E:Ends}{σ:St}{H:Hp}
def qD (i:Nat)(O U:FE):FS:=λρ=>match ρ[i]? with
 |some (some (.dk ks vs,true))=>(U (fN ρ)).bind λv=>(O ρ).bind λk=>(kJ k.1).bind λM=>if ks.length<sizeLine then some (.nx (ρ.set i (some (.dk (f6 ks M) (dc ks vs M v.1),true))))else none
 |_=>none
theorem Er (q:lE K (qD i fk fv) E σ H):Bz (Fh i) (tD K fk) (tD K fv) E σ H:=by
 obtain⟨B0,H0,ρ,r,⟨N,s⟩,e,p⟩:=q;unfold qD at e;split at e
 .rename_i ks ds ei;obtain⟨v,O,e⟩:=oX e;obtain⟨k,ek,e⟩:=oX e;obtain⟨U,hk,e⟩:=oX e;split at e
  .cases e
   refine⟨cR N _,fN ρ,v.1,v.2,br.trans s.ext.nh,s.repH,O,λf g N1 b i1 _=>?_⟩;obtain⟨s1,c⟩:=s.growH b;obtain⟨a,o,h1,h2,h3,h4⟩:=s1.ow i _ ei;refine⟨.ref a,h1,_,ρ,k.1,k.2,s1.ext.nh,s1.rep,ek,λh H2 N2 M i2 _=>?_⟩;have s2:=s1.grow M;have hv:=tQ i2 hk;subst hv;obtain⟨j,o',k1,k2,k3,k4⟩:=s2.ow i _ ei;rw[h1]at k1;cases k1
   cases k4 with
   |@dk ks vs ds hl h5 ob=>
    refine⟨a,rr,.inl ⟨_,U,_,s2.ext.nh _ _ k2,rr,?_,λd=>?_⟩⟩
    .rw[length_zip];lia
    .rw[p9 hl];exact p σ _ ⟨_,s2.writeB ei h1 (.dk (lU hl _ _) (h5.put ((i1.mono c).mono (cY λa o e q=>⟨M.bn a o e,q⟩))))⟩
  .cases e
 simp_all
end
section
variable {X:Cx}{pos:Pos}{e k:Expr}
theorem Hu (hu:X.A.units+1<cLine)(hv:JE X e fv)(hk:JE X k fk)(U:X.N[i]? = some y)(M:Fg X.env.scope y)(hd:(y == ("__debug__" : Str))=false)
  (O:(y == ("__classdict__" : Str))=false) (hs:swapsWith e (some (.Subscript (.Name y py) k pt)) pos.line X.env=pure false):JS X (.Assign [.Subscript (.Name y py) k pt] e pos) (qD i fk fv):=
 PS.to (ve hu (iB U M hd O) hk hv hs) λ_ _ _ q=>Er q
end
section
variable {prog:Program}{w:World}{A:Around}{E:QV}{s:Shared}
theorem Cc:∀(vs:LU)(ns:LI),vs.length=ns.length->(∀(i:Nat)(v:Value),vs[i]? = some v->∃(m:Int)(t:Tok),ns[i]? = some m/\v=Value.int m t)->IntsAre vs ns
 |[],[],_,_=>.nil
 |v::vs,n::ns,h,k=>by
  obtain⟨m,t,e,rfl⟩:=k 0 v rr;cases (show some n=some m from e)
  exact .cons n t (Cc vs ns (by simpa using h) λi v hv=>k (i+1) v hv)
theorem yC (hh:A.handled=none)(lo:(a == sysModules)=false)(hm:s.heap.DictAt (cc prog w) a a7 ep)(hk:a7.map (·.1)=ns.map .inl)(h:ns.length<64)
  (j:∀(h1 h':Heap)(tk:Nat)(b:Addr)(out:AV)(n:Nat)(M:LI),(∀c u,s.heap.get? c=some u->h1.get? c=some u)->(∀c u,h1.get? c=some u->h'.get? c=some u)->h1.objs.size<=b->h'.get? b=some (seqObj "list" out n) ->
   IntsAre out.toList M->M.Perm ns->M.Pairwise (·<=·)->Q (.ref b) { s with heap:=h',toks:=tk }):
  wpAny (model prog w) A (call (.builtin "sorted") [.ref a]) Q E s:=by
 refine Calls.call_function_entry kind_sorted plain_sorted entry_sorted (args_sorted1 _) ?_;refine wX (wY ?_);have d:=by have:=congrArg List.length hk;simpa using this
 refine wX (kdu_collect (A:=A.in1) (kdl_dict lo) (by exact hh) hm (by rw[sizeLine_eq];lia) λh1 tk acc U O=>?_);have e:acc.toList.length=ns.length:=by rw[vF,O.1,d]
 have l:=Cc acc.toList ns e λi v hv=>by
  obtain⟨k,x,o,e2⟩:=O.2 i v (by simpa using hv);have g:(a7.map (·.1))[i]? = some k:=by rw[uZ,o];rfl
  rw[hk,uZ]at g;obtain⟨m,p,rfl⟩:=oY g;obtain⟨t,rfl⟩:=Value.isInt_shape (k:=m) (v:=v) e2;exact⟨m,t,p,rr⟩
 refine wX (wpAny_newList ?_ (by rw[e,sizeLine_eq];lia));have f:(h1.push (seqObj "list" acc.toList.toArray 0)).get? h1.objs.size=some _:=vY _ rr;refine wX (wpAny_holding (wpAny_call_entry slot_list_sort ⟨_,f,rr⟩ entry_list_sort (list_sort_tree f l (by rw[e];exact h) λout M r y z=>⟨_,rr,?_⟩) (args_list_sort _)));obtain⟨n,he⟩:=sortedHeap_at (out:=out) f;refine wY ⟨_,rr,j h1 _ _ _ out n M U (λb u q=>?_) (vT _) he r y z⟩;have hl:=vX q;rw[sortedHeap_old (vS hl) (by simp_all[lt_succ_of_lt])];exact vZ _ q
end
noncomputable def tU:LK->Option LI
 |[]=>some []
 |.inl n::ks=>(tU ks).map (n :: ·)
 |.inr _::_=>none
theorem yD:∀ {ks:LK}{ns:LI},tU ks=some ns->ks=ns.map .inl
 |[],_,h=>by cases h;rfl
 |.inl n::ks,_,h=>by
  obtain⟨r,h1,rfl⟩:=oY h;rw[yD h1];rfl
 |.inr _::_,_,h=>by cases h
theorem Mz {a7:List (di×V)}{vs:List (di×Value)}(r:KV a7 vs):vs.map (·.1)=a7.map (·.1):=by
 induction r with
 |nil=>rfl
 |cons h t M=>simp_all
@[simp] def Hv:LD->OB
 |[.dk ks _]=>(tU ks).bind λns=>if ns.length<64 then some (.lst ((hG ns).map .int),true)else none
 |_=>none
section
variable {X:Cx}
theorem Es (hc:X.calm=true):bH X (.builtin "sorted") (Ae X.K Hv):=by
 intro af s σ H xs us Q I r h;obtain⟨B,dl,d,bb,g,i,O,q⟩:=h;cases i with
 |nil=>simp at O
 |cons i1 i2=>
  cases i2 with
  |cons _ _=>simp_all
  |nil=>
   cases i1 with
   |@dk a ks vs ds ob hd hl hs=>
    obtain⟨u,rfl,k⟩:=fM r;cases k
    obtain⟨ns,en,O⟩:=oX O;split at O
    .rename_i U;cases O
     have c:=g _ _ hd;obtain⟨es,A,f⟩:=wx I.hok c;obtain⟨l,p,m⟩:=qA I.hok c f;have t:l.map (·.1)=ns.map .inl:=by rw[Mz p,List.map_fst_zip N9,yD en]
     refine yC (I.ok.hd hc) (pN I.hok c).2.1 m t U λh1 h' tk b out n v k1 k2 hb he x M y=>?_;have e:=qt M y;subst e;have j:Inv X _ σ H { s with heap:=h1,toks:=tk }:=tM I k1 rr rr;have hf:=j.hok.fresh hb;have z:=Ext.laid (o:=.lst ((hG ns).map V.int)) g hf;exact⟨.ref b,_,j.laid k2 hb (show bc _ X.w _ h' _ (.lst _)from ⟨by rw[vH];unfold hG;rw[(aC _ ns).length_eq,sizeLine_eq];lia,out.toList,n,dY x,he⟩),rr,q _ _ _ z (.lst (dW.of aq) (jr _)) λ_=>⟨_,_,_,rr,rr,hf,aq,jr _⟩⟩
    simp_all
   |_=>simp at O
theorem QA (hu:X.A.units+1<cLine)(hi:JE X i fi)(ho:JE X o fo)(hm:behindInMarks .In o=false):JE X (.Compare i [.In] [o] pos) (f2 Zp fi fo):=by
 refine PE.to (OF (Pn hu hi ho) hm) λσ H Q q=>?_;obtain⟨B,ρ,d,bb,b,r,M,q⟩:=q;obtain⟨y,c,M⟩:=oX M;obtain⟨x,ex,M⟩:=oX M;refine⟨B,ρ,y.1,y.2,b,r,c,λe f N1 O i2 _=>⟨N1,ρ,x.1,x.2,O.nh,r.mono O.bn,ex,λv H2 N2 U i1 g=>?_⟩⟩;obtain⟨xd,j⟩:=x;cases i1 with
 |@dk a ks vs ds ob h hl hs=>
  obtain⟨k,hk,M⟩:=oY M;cases M
  have hv:=tQ i2 hk;subst hv;refine⟨a,jj _ k,rr,.inl ⟨_,k,_,.inl (U.nh _ _ h),rr,rr⟩,?_⟩;rw[Eg hl hs];exact(q.into (O.trans U)).one U.nh (.bl _)
 |_=>simp at M
end
end DL
namespace DL
open PySem PySem.Spec PyProof.Rows L2
@[simp] abbrev fV (i:Nat)(g:FA):FA:=ao (am i) g
@[simp] abbrev fI (n:Int):FE:=fC (.int n)
@[simp] abbrev fS (s:PySem.Str):FE:=fC (.str s)
end DL
namespace DL
open PySem PySem.Spec PySem.W PyProof.Rows L2
noncomputable def Hw:Value->Int
 |.int n _=>n
 |_=>0
theorem koI {prog:Program}{w:World}:KOf (PySem.intKind prog w) Hw .int:=⟨intKind_is prog w,λh=>Value.isInt_shape h,λ_ _=>rr,λ_ _=>rr⟩
theorem hW:∀(vs:LU),(∀v∈vs,∃x t,v=.int x t)->IntsAre vs (vs.map Hw)
 |[],_=>.nil
 |v::vs,h=>by
  obtain⟨x,t,rfl⟩:=h v mX;exact .cons x t (hW vs λu hu=>h u (mZ _ hu))
theorem soI {prog:Program}{w:World}:yi prog w Hw .int λM=>aF ((hG M).map V.int):=λh1 h2 h3 ho h=>
 list_sort_tree ho (hW _ h1) h3 λout O U a b=>h out (by have e:=qt (a.trans h2) b;subst e;exact dY U)
theorem IntsAre.at:∀ {vs:LU}{ss:LI},IntsAre vs ss->∀(i:Nat)(v:Value),vs[i]? = some v->∃x t,v=.int x t/\ss[i]? = some x
 |_,_,.nil,i,v,h=>by simp at h
 |_,_,.cons x t hr,0,v,h=>by simp at h;exact⟨x,t,h.symm,rr⟩
 |_,_,.cons x t hr,i+1,v,h=>by
  simp only[List.getElem?_cons_succ]at h;exact IntsAre.at hr i v h
@[simp] def dG:D->OB:=GA fU hG .int
theorem yE {X:Cx}{e:Expr}{O M p p2:Pos}(hc:X.calm=true)(m1:X.mg "sorted" = none)(m2:X.mg "set" = none)(he:JE X e f)(g1:Gl X "sorted")(U:Gl X "set")
  (h1:starEach [e] X.env=(false,eval e X.env)::starEach [] X.env):JE X (.Call (.Name "sorted" p) [.Call (.Name "set" p2) [e] [] M] [] O) (f1 dG f):=
 yo koI soI (λa=>(aC _ a).length_eq) jr (λb hl c=>have h:=wo b hl c;⟨IntsAre.length h,IntsAre.at h⟩) hc m1 m2 he g1 U h1
end DL
namespace DL
open PySem PySem.Spec PyProof.Rows L2
theorem AF:bootBuiltins "reversed" = some (.type "reversed"):=H9
@[simp] noncomputable def inT (j:Nat):D×Bool->Option LD
 | (.tup ds,true)=>match ds[j]? with
  |some (.lst es)=>some es
  |_=>none
 |_=>none
@[simp] def gTA (i:Nat)(f:FE)(M:FT)(g1:FS)(c2:FT)(j:Nat)(fe:FE)(h2:FS):FS:=λρ=>(f (fN ρ)).bind λx=>match M (ρ.set i (some (x.1,false))) with
 |some true=>match g1 (ρ.set i (some (x.1,false))) with
  |some (.rt d b)=>some (.rt d b)
  |_=>none
 |some false=>match c2 (ρ.set i (some (x.1,false))) with
  |some false=>some (.nx (ρ.set i (some (x.1,false))))
  |some true=>(inT j x).bind λes=>(fe (ρ.set i (some (x.1,false)))).bind λy=>if i<ρ.length/\es.length<sizeLine then h2 (ρ.set i none)else none
  |none=>none
 |none=>none
@[simp] noncomputable def Hx (f g:FE):FE:=λρ=>(f ρ).bind λx=>(g ρ).bind λy=>match y with
 | (.lst ds,true)=>if aI x.1=true then some (.tup [x.1,.lst ds],true)else none
 |_=>none
theorem M0 {X:Cx}{e U:Expr}{b}(he:JE X e f)(k:JE X U g)(hs:starEach [e,U] X.env=(false,eval e X.env)::starEach [U] X.env)(l:starEach [U] X.env=(false,eval U X.env)::starEach [] X.env):JE X (.Tuple [e,U] b pos) (Hx f g):=by
 refine PE.to (uE (cF he (cF k dX l) hs)) λσ H Q q=>?_;obtain⟨B,ρ,d',bb,m,r,M,q⟩:=q;obtain⟨x,ex,M⟩:=oX M;obtain⟨y,n,M⟩:=oX M;split at M
 .rename_i ds;split at M
  .rename_i hx;cases M
   refine⟨B,ρ,x.1,x.2,m,r,ex,λv s N1 b i1 _=>⟨N1,ρ,_,_,b.nh,r.mono b.bn,n,λw H2 N2 d i2 f2=>⟨(by decide:2<=sizeLine),λt p=>?_⟩⟩⟩;obtain⟨a,vs,u,rfl,z,h3,h4,h5⟩:=f2 rr;cases z
   have c:=Ext.laid (o:=HO.tup [v,.ref a]) d.nh p;have h:=h5.mono c.bn;have n4:=c.bn _ _ h4;have i:IsL X.K (upd N2 t (.tup [v,.ref a])) [v,.ref a] [x.1,.lst ds]:=.cons (i1.mono (d.bn.trans c.bn)) (.cons (.lst (dW.of n4) h) .nil);refine q _ _ _ (b.trans (d.trans c)) (.tup (fL.of aq) i) λ_=>⟨t,_,rr,fL.of aq,i,λj es O=>?_⟩;match j,O with
   |0,O=>simp at O;rw[O]at hx;simp at hx
   |1,O=>simp at O;subst O;exact⟨a,vs,rr,b.hh.free h3,n4,h⟩
  simp_all
 simp_all
end DL
namespace L2
open PySem PySem.Spec PyProof.Rows
noncomputable def XA (K:Frag)(a:Addr)(xs:List V):It:=⟨λi H=>dW K H a xs/\i<xs.length,λi H v H'=>H'=H/\xs[xs.length - 1 - i]? = some v,λi H=>dW K H a xs/\xs.length<=i⟩
theorem Hy {P:Program}{w:World}{K:Frag}{tg:Expr}(a it:Addr)(xs:List V):Turn P w K tg (XA K a xs) [it] it (λi h=>i<=xs.length/\h.IsRevIter it a ((xs.length:Int) - 1 - (i:Int))) where
 mem:=V9
 obj:=λi h st b hb=>by
  have e:b=it:=by simpa using hb
  obtain⟨_,o,e,c,d⟩:=st;simp_all
 keep:=λi h h' st k=>⟨st.1,st.2.at λo e=>k it V9 o e⟩
 item:=by
  intro X j hw l hc i af s σ H E I hf st M;subst j hw l;obtain⟨hq,hi⟩:=M;obtain⟨x,hx⟩:∃x,xs[xs.length - 1 - i]? = some x:=⟨_,vU N9⟩;obtain⟨its,m,p,hz⟩:=I.list hq;obtain⟨u,hu,ru⟩:=m.get hx;obtain⟨O,f1,f2,U,f,g⟩:=hf it V9;have u9:=st.2;rw[show(xs.length:Int) - 1 - (i:Int)=((xs.length - 1 - i:Nat):Int) by lia]at u9;refine wpAny_pyNext_rev_item u9 p.isList (by simpa using hu) λh' n q=>?_;have r:=I.turned (t':=s.toks) (λb o hb e=>(q.2 b hb).trans e) O f1 U f g;obtain⟨o,e,c,d⟩:=id n;refine⟨u,rr,pH e c d Z9 ⟨x,H,r,ru,⟨rr,hx⟩,⟨N9,?_⟩,λb hb=>(hf b hb).1⟩⟩;grind
 done:=by
  intro X j hw l hc i af s σ H E I hf st M;obtain⟨hq,hx⟩:=M;obtain⟨O,f1,f2,U,f,g⟩:=hf it V9;have u9:=st.2;rw[show(xs.length:Int) - 1 - (i:Int) = -1 by lia]at u9;exact wpAny_pyNext_rev_end (I.ok.hd hc) u9 λh' t=>⟨rr,I.turned (λb o hb e=>t b o hb e) O f1 U f g⟩
 self:=λ_ _ _ _ _ st h=>wpAny_pyIter_revIter st.2 h
end L2
namespace DL
open PySem PySem.Spec PyProof.Rows L2
@[simp] noncomputable def M2 (fa:FE):FA:=λρ=>(fa ρ).bind λx=>match x.1 with
 |.lst ds=>some ds.reverse
 |_=>none
theorem QB {K:Frag}{N:Hp}{l:Addr}{vs:LV}{ds:LD}(h1:dW K N l vs)(i1:IsL K N vs ds):lF K (XA K l vs) N ds.reverse:=by
 intro i H' M;have n1:=i1.length;refine⟨λd ed=>?_,λhl=>⟨M.seq h1,by simp_all⟩⟩;have hi:=by have:=(vV ed).1;rwa [List.length_reverse]at this
 rw[List.getElem?_reverse hi]at ed;obtain⟨v,O,iv⟩:=i1.get ed;refine⟨⟨M.seq h1,N9⟩,λr H2 hy=>?_⟩;obtain⟨rfl,e⟩:=hy;rw[show vs.length - 1 - i=ds.length - 1 - i by lia,O]at e;cases e
 exact⟨N,.refl M,iv⟩
section
variable {X:Cx}{a e:Expr}{pos p:Pos}
theorem QC {fa:FE}(hm:X.mg "reversed" = none)(ha:JE X a fa)(i:Gl X "reversed")(hs:starEach [a] X.env=[(false,eval a X.env)]):
  JI X tg (.Call (.Name "reversed" p) [a] [] pos) (M2 fa):=by
 intro af s σ H R I q;refine Call_ (fK I i hm AF (PyProof.Rows.callWith_type1 (bJ (gB ha mS hs pos af s σ H (λvs M=>∃(l:Addr)(us:LV),vs=[.ref l]/\dW X.K M l us/\R (XA X.K l us) M) I ?_) λus s1 ⟨vs,M,U,j,k⟩=>?_) hs rr))
 .obtain⟨B,ρ,ds,m,r,c,q⟩:=q;obtain⟨⟨xd,w⟩,ex,c⟩:=oX c;cases xd<;>try (cases c;done)
  rename_i d;cases c
  refine⟨B,ρ,[.lst d],m,r,by simp[ao,av,ex],λvs M N1 f i1=>?_⟩;cases i1 with
  |cons n t=>
   cases t
   cases n
   rename_i l O h m1;exact⟨l,O,rr,f.nh.seq h,q _ M N1 f (QB h m1)⟩
 .obtain⟨l,O,rfl,h1,q⟩:=k;obtain⟨x,rfl,u⟩:=j.one;cases u
  obtain⟨its,g,v,y⟩:=U.list h1;refine call_reversed_list v.isList ?_;have u9:Heap.IsRevIter (s1.heap.push (revObj l _)) s1.heap.objs.size l ((its.toArray.size:Int) - 1):=⟨_,vY _ rr,rr,rr⟩;refine wpAny_pyIter_revIter u9 ⟨s1.heap.objs.size,[s1.heap.objs.size],_,_,M,rr,U.kept (t':=s1.toks) λb o e=>vZ _ e,Hy l _ O,⟨uM _,?_⟩,λb hb=>?_,q⟩
  .rw[vG,<-g.length]at u9;rw[show(O.length:Int) - 1 - ((0:Nat):Int)=(O.length:Int) - 1 by lia];rw[vG,<-g.length];exact u9
  .have e:=by simpa using hb
   subst e;exact U.fpOk (vT _) (U.hok.fresh (vT _))
def QE (K:Frag):V->LV->Hp->VK->Prop:=λx vs H Q=>∃(l:Addr)(ns:LI)(n:Int),x=.ref l/\vs=[.int n]/\dW K H l (ns.map V.int)/\ns.findIdx (· == n)<ns.length/\Q (.int (ns.findIdx (· == n):Nat)) H
theorem Hz:Wl X "list.index" (QE X.K):=by
 intro af s σ H x vs v us Q I d f h;obtain⟨l,ns,n,rfl,rfl,g,hk,q⟩:=h;cases d
 obtain⟨u,rfl,⟨t,rfl⟩⟩:=f.one;obtain⟨its,r,⟨o,m,e,hc,U,hd⟩,z⟩:=I.list g;have hi:=qu r;have hl:=r.length;rw[vH]at hl z;have at':∀(i:Nat)(M:i<its.length),∃t',its[i]=.int (ns[i]' N9) t':=λi M=>by
  obtain⟨t',O⟩:=IntsAre.int_at hi i its[i] V9;simp_all
 have hj:ns.findIdx (· == n)<its.toArray.size:=by simp_all
 obtain⟨oc,od,j,mM⟩:=o;subst hc U hd;have hz:sizeLine<2 ^ 63 - 1:=Z9
 refine call_meets PySem.F.slot_list_index ⟨_,e,rr⟩ PySem.F.entry_list_index (PySem.F.args_list_index_2 _ _)
  (PySem.SeqAt.list_indexAt l _ m none mM _ (U9 n) _ hj N9 ?_ (λi M k=>?_)) ⟨e,λy hy=>?_,?_⟩
 .obtain⟨t',O⟩:=at' (ns.findIdx (· == n)) _;simp only[List.getElem_toArray];rw[O];exact List.findIdx_getElem (w:=hk)
 .have b:=by simpa using M
  obtain⟨t',O⟩:=at' i b;simp [List.getElem_toArray];rw[O];have:=List.not_of_lt_findIdx k;simpa [U9]using this
 .have c:=by simpa using hy
  obtain⟨i,M,rfl⟩:=List.mem_iff_getElem.mp c;obtain⟨t',O⟩:=at' i M;rw[O];exact(MeetsSeq.EqGives.int _ _ _ _).at _ _
 .exact⟨.int _,H,I.tok _,⟨_,rr⟩,q⟩
@[simp] def nv:D->D->OB
 |.lst ds,.int n=>(fU ds).bind λns=>if ns.findIdx (· == n)<ns.length then some (.int (ns.findIdx (· == n):Nat),false)else none
 |_,_=>none
theorem HA {bQ bq:Pos}{fa f:FE}(ha:JE X a fa)(he:JE X e f)(O:attributeBase a "index" X.env (eval a X.env)=eval a X.env)
  (i:((backTo bq (starEach [e] X.env)).all (λx=>!x.1) && (backToKw bq (keywordEach [] X.env)).all (λx=>x.1.isSome)
   && decide ([e].length+([]:List Keyword).length+(if([]:List Keyword).isEmpty then 0 else 1)<30))=true)
  (U:(bQ.endLine == bq.line)=true) (hs:starEach [e] X.env=[(false,eval e X.env)]):JE X (.Call (.Attribute a "index" bQ) [e] [] bq) (f2 nv fa f):=by
 refine PE.to (xD plainAttrs_list PySem.F.slot_list_index PySem.F.type_list_index Hz ha (cF he dX hs) O i U hs rr) λσ H Q q=>?_;obtain⟨B,ρ,d,bb,j,r,M,dv⟩:=q;obtain⟨⟨xd,s⟩,ex,M⟩:=oX M;obtain⟨⟨k,t⟩,m,M⟩:=oX M;cases xd<;>try (cases M)
 cases k<;>try (cases M)
 rename_i n;obtain⟨ns,en,M⟩:=oX M;split at M
 .rename_i hk;cases M
  refine⟨B,ρ,_,_,j,r,ex,λv u N1 c i1 f1=>?_⟩;cases i1
  rename_i l y h m1;have o:=GJ m1 en;subst o;refine⟨.inl ⟨rr,_,c.nh.seq h⟩,N1,ρ,_,_,c.nh,r.mono c.bn,m,λw H2 N2 g i2 _=>?_⟩;cases i2
  have b:=c.trans g;exact⟨l,ns,n,rr,rr,g.nh.seq (g.bn.seq h),hk,(dv.into b).one b.nh (.int _)⟩
 simp_all
end
structure FnD (P:Program)(w:World)(K:Frag)(mg:Str->Option Value)(base:Heap)(k:Nat)(x:Str)(f:List D->OB):Prop where
 ex:∃(ad:Addr)(fd:FuncData)(ps:List Str),mK P w K mg base xE k ad fd ps (KA K f)/\mg x=some (.ref ad)/\PySem.W.keepIn K (.ref ad)=true/\oh K fd ps []/\oh K fd ps [.none]
end DL
namespace DL
open PySem PySem.Spec PySem.W PyProof.Rows L2
def S9 (ns:LI):Prop:=∀i∈ns,Builtin.Int.intBits i<=1048576
abbrev UR:D->D->OB:=Ah (λi j=>decide (Builtin.Int.intBits i<=2097152/\Builtin.Int.intBits j<=2097152)) λi j=>.int (i*j)
theorem QF {X:Cx}:cj X (binaryOp .Mult) (rD X.K UR):=lI (Ts λ_ _ _ _ _ _ _ hc q=>mul_int q (IntMulOk.of_le hc.1 hc.2 Z9)) (λ_ _ h=>ET h) λ_ _ _=>.int _
theorem QG {ns:LI}(h:WData.layableAll [WData.list (ns.map WData.int)]=true):S9 ns:=λi hi=>by
 have h1:=layableW_arg h _ (mem_singleton.mpr rr);have h2:=layableW_item h1 _ (uR ⟨i,hi,rr⟩);simp_all[WData.layable,WData.weight,Builtin.Int.intBits]
theorem walkB {l:PySem.W.OpenLaw}{q:Program}{O:LS}{D:SV->Heap->Prop}{B:World->Heap->Prop}{d:DefRec}{K:Params->Frag}{k:Nat}{x:Str}{f:LD->OB}{L:List (Str×Option (Addr×Addr))}(hn:l.most=some 63)(E:d.params.defaults=[])(hr:cV k callerA)
  (I:∀(w:World)(h:Heap),B w h->(K w.params).In h) (n:∀w:World,pF (K w.params) L) (J:(L.all λp=>p.2.isNone || ((recsOf q).find? λe=>e.name == p.1).isSome)=true)
  (F:∀(w:World)(mg:SV)(fa:Addr)(h:Heap),(K w.params).In h->h.Ns mainGlobals mg->mg d.name=some (.ref fa) ->
   ∃fd:FuncData,(∀(s:Shared)(u:Value),BindsTo s fd ⟨[u],[]⟩ [(x,u)])/\∀base:Heap,(K w.params).In base->base.Ns mainGlobals mg->mK l.prog w (K w.params) mg base xE k fa fd [x] (KA (K w.params) f))
  (Q:∀ns:LI,ns.length<=63->S9 ns->∃b,f [.lst (ns.map .int)]=some (.bl true,b)):PySem.W.WalkO q O D B l.row.toRowW d [] (λf vs=>PySem.call f vs):=by
 intro w s₀ C mg mb G Y fa o pm cd doc dV kV ho hd Bm R t S args vals as i j V X Z;obtain⟨a,vs,ns,rfl,rfl,YO,U,M⟩:=Att.DA hn i X;have y:=I w _ Y;obtain⟨fd,hb,hF⟩:=F w mg fa _ y G.T.g t;refine enter_call (codeAny_mono (DJ (vw L) (λb u e=>?_) (n w).none y G.T.g G.T.b G.T.builtins G.T.nolimit G.T.bmain S YO U (vR M Z9) hr hF hb λH hH hS=>?_) λr s' hq=>?_)
 .obtain⟨p,hp,e2⟩:=mem_filterMap.mp (jq e);obtain⟨⟨c,P⟩,e3,e4⟩:=oY e2;cases e4
  have m:=uQ J p hp;rw[e3]at m;obtain⟨r,z⟩:=uT m;have A:PySem.W.tabIn (K w.params) p.1=some (c,P):=by
   rw[(n w).names]at hp;simp_all<;>lia
  obtain⟨h1,h2⟩:=PySem.W.tab_of G.T y z A;exact⟨h2,(h1.tab h2).isCodeTable⟩
 .obtain⟨b,e⟩:=Q ns M (QG j);exact⟨H,_,_,b,⟨.refl H,(n w).tb hH⟩,.cons (.lst hS (.flat rr)) .nil,e,λv H' N x' i' _=>by cases i';rfl⟩
 .obtain⟨rfl,h2,h3,h4⟩:=hq;exact⟨.inl ⟨.bool _,.bool _,[],rr,λ_=>rr,.bool _,Att.DB l _,λ_=>⟨List.Pairwise.nil,λ_ hm=>(nomatch hm)⟩⟩,h2,h3,h4⟩
end DL
namespace DL
open PySem PySem.Spec PyProof.Rows L2
section
variable {X:Cx}{a b e:Expr}{pos:Pos}{x:Str}{p:Pos}
theorem IsL.dropL {K:Frag}{B:Hp}{vs:LV}{ds:LD}(h:IsL K B vs ds):IsL K B vs.dropLast ds.dropLast:=by
 rw[List.dropLast_eq_take,List.dropLast_eq_take,h.length];exact h.take _
noncomputable def M3 (ds:LD):Option LD:=if ds.isEmpty=true then none else some ds.dropLast
theorem QH (d:X.N[i]? = some y)(hv:Fg X.env.scope y)(hd:(y == ("__debug__" : Str))=false)
  (f:(y == ("__classdict__" : Str))=false) (M:attributeBase (.Name y py) "pop" X.env (eval (.Name y py) X.env)=eval (.Name y py) X.env)
  (O:(bQ.endLine == bq.line)=true) (g:swapsWith (.Call (.Attribute (.Name y py) "pop" bQ) [] [] bq) none pos.line X.env=pure false):
  JS X (.Expr (.Call (.Attribute (.Name y py) "pop" bQ) [] [] bq) pos) (Qs i M3):=by
 refine PS.to (uB (Pk plainAttrs_list PySem.F.slot_list_pop PySem.F.type_list_pop Pl (iB d hv hd f) M O) g) λE σ H q=>?_;obtain⟨B0,H0,ρ,r,⟨N,s⟩,U,p⟩:=q;unfold Qs at U;split at U
 .rename_i ds ei;obtain⟨es,c,U⟩:=oY U;unfold M3 at c;split at c
  .cases c
  rename_i h;cases c
  cases U
  obtain⟨l,vs,j,z,h1,h2,h3,h4⟩:=s.owL i _ ei;cases z
  have hl:0<vs.length:=by rw[h4.length];cases ds with|nil=>exact absurd rr h|cons _ _=>simp
  exact⟨_,h1,.inl ⟨rr,vs,dW.of (s.ext.nh _ _ h2)⟩,l,vs,vs[vs.length - 1],rr,rr,s.ext.nh _ _ h2,vU _,p σ _ ⟨_,s.write ei h1 h4.dropL⟩⟩
 simp_all
end
theorem ib:fillsNumberSlot (.type "tuple") "mul" = pure false:=
 by rfl
theorem lW:seqRepeat? (.type "tuple")=pure (some (.builtin "tuple.__mul__")):=by
 rfl
theorem jx (a:Int)(t:Tok)(l:Addr)(items:AV)(n:Nat)(dd:Option Addr)(sl:Array (Option Value)):
  Meets (Builtin.«int.__rmul__» ⟨[.int a t,.ref l],[]⟩) (λ_ R s=>s.heap.get? l=some { cls:=.type "tuple",dict:=dd,data:=.seq items n,slots:=sl }/\R (.ok (.ret Value.notImplemented)) s):=
 .of_wp λprog w A R s h=>by obtain⟨hl,h⟩:=h;wp_walk;exact⟨_,rr,h⟩
theorem sM (l:Addr)(items:AV)(n:Nat)(dd:Option Addr)(sl:Array (Option Value))(x:Int)(u:Tok)(M:¬(decide (x < -(2 ^ 63)) || decide (x ≥ 2 ^ 63))=true)(b:¬(items.isEmpty || x == 1)=true)(d:¬(decide (x<=0) || items.isEmpty)=true)(O:¬(items.size:Int)*x > (2 ^ 63 - 1) / 8)(e:¬Builtin.Tuple.tupleTooMany ((items.size:Int)*x)=true)(c:(List.foldl (λU a=>U++a) #[] (List.replicate x.toNat items)).size<=sizeLine):
  Meets (Builtin.«tuple.__mul__» ⟨[.ref l,.int x u],[]⟩) (λ_ R s=>s.heap.get? l=some { cls:=.type "tuple",dict:=dd,data:=.seq items n,slots:=sl }/\R (.ok (.ret (Value.ref s.z))) { s with heap:=s.heap.push { cls:=Value.type "tuple",data:=Data.seq (List.foldl (λU a=>U++a) #[] (List.replicate x.toNat items)) },toks:=s.toks }):=
 .of_wp λprog w A R s h=>by obtain⟨hl,h⟩:=h;refine wpAny_ite_false (ES M) ?_;wp_walk using wpAny_loadPart' hl;refine wpAny_ite_false (ES O) ?_;wp_walk using wpAny_loadPart' hl;exact⟨_,rr,h⟩
@[simp] noncomputable def HB:D->D->OB
 |.tup ds,.int k=>if 2<=k/\k<=1000/\0<ds.length/\ds.length*k.toNat<=1000 then some (.tup (List.replicate k.toNat ds).flatten,false)else none
 |_,_=>none
section
variable {X:Cx}
theorem M4:cj X (binaryOp .Mult) (rD X.K HB):=by
 intro af s σ H x y v u Q I g i q;obtain⟨B,dx,dy,d,bb,c,j,m,O,q⟩:=q;cases j<;>try (cases O;done)
 cases m<;>try (cases O;done)
 rename_i l vs ds h hl k;simp only[HB]at O;split at O
 .rename_i hz;cases O
  obtain⟨h2,h3,h4,h5⟩:=hz;cases g
  obtain⟨t,rfl⟩:=i;have U:=hl.length;obtain⟨its,e,p,r⟩:=I.tuple (aK c h);have a:=e.length;obtain⟨⟨cls,dd,data,sl⟩,ho,hc,n,w⟩:=id p;subst hc w;have z:(its.toArray.size:Int)*k=((ds.length*k.toNat:Nat):Int):=by
   grind
  have E:its.toArray.isEmpty=false:=by
   grind
  have M:List.foldl (λA C=>A++C) #[] (List.replicate k.toNat its.toArray)=(List.replicate k.toNat its).flatten.toArray:=by
   have:=sZ its k.toNat [];simp_all
  have D:(List.replicate k.toNat its).flatten.length<=sizeLine:=by
   rw[Lo,<-a,U,Nat.mul_comm];exact vR h5 Z9
  refine PySem.wpAny_binaryOp_repeat_ref Z9 ⟨_,ho,rr⟩ (λs'=>typeIs_int s' k t) ib F.fills_int_mul F.slot_int_rmul lW F.slot_int_index.lookup
   (call_meets F.slot_int_rmul (typeIs_int s k t) F.entry_int_rmul (F.args_int_rmul_2 _ _) (jx k t l its.toArray n dd sl)
    ⟨ho,rr,⟨_,ho,rr⟩,call_meets F.slot_tuple_mul ⟨_,ho,rr⟩ F.entry_tuple_mul (F.args_tuple_mul_2 _ _) (sM l its.toArray n dd sl k t ?_ ?_ ?_ ?_ ?_ ?_) ⟨ho,?_⟩⟩)
  .lia
  .lia
  .lia
  .omega
  .unfold Builtin.Tuple.tupleTooMany;simp_all<;>lia
  .rw[M];exact D
  .rw[M];have hp:=I.hok.fresh (vT _);have f:=Ext.laid (o:=.tup (List.replicate k.toNat vs).flatten) c hp;refine⟨.ref _,_,I.laid (λb ob q=>vZ _ q) (vT _) ?_,rr,q _ _ _ f (.tup (fL.of aq) ((hl.rep k.toNat).mono f.bn)) V9⟩;exact⟨by simp_all,_,e.rep k.toNat,IsTup.new _ _⟩
 simp_all
theorem sP (l:Addr)(items:AV)(n:Nat)(dd:Option Addr)(sl:Array (Option Value))(u:Tok)(hi:items.size<=sizeLine):
  Meets (Builtin.«tuple.__mul__» ⟨[.ref l,.int 1 u],[]⟩) (λ_ R s=>s.heap.get? l=some { cls:=.type "tuple",dict:=dd,data:=.seq items n,slots:=sl }/\R (.ok (.ret (Value.ref l))) s):=
 .of_wp λprog w A R s h=>by obtain⟨hl,h⟩:=h;wp_walk using wpAny_loadPart' hl;exact⟨_,rr,h⟩
@[simp] noncomputable def HC:D->D->OB
 |.tup ds,.int k=>if k=1 then some (.tup ds,false)else none
 |_,_=>none
theorem M5:cj X (binaryOp .Mult) (rD X.K HC):=by
 intro af s σ H x y v u Q I b c q;obtain⟨B,dx,dy,d,bb,a,e,f,M,q⟩:=q;cases e<;>try (cases M;done)
 cases f<;>try (cases M;done)
 rename_i l vs ds h hl k;simp only[HC]at M;split at M
 .rename_i hz;cases M
  subst hz;cases b
  obtain⟨t,rfl⟩:=c;obtain⟨its,g,i,O⟩:=I.tuple (aK a h);obtain⟨⟨cls,dd,data,sl⟩,ho,hc,n,j⟩:=id i;subst hc j;refine PySem.wpAny_binaryOp_repeat_ref (U:="int") Z9 ⟨_,ho,rr⟩ (λs'=>typeIs_int s' 1 t) ib F.fills_int_mul F.slot_int_rmul lW F.slot_int_index.lookup
   (call_meets F.slot_int_rmul (typeIs_int s 1 t) F.entry_int_rmul (F.args_int_rmul_2 _ _) (jx 1 t l its.toArray n dd sl)
    ⟨ho,rr,⟨_,ho,rr⟩,call_meets F.slot_tuple_mul ⟨_,ho,rr⟩ F.entry_tuple_mul (F.args_tuple_mul_2 _ _) (sP l its.toArray n dd sl t ?_) ⟨ho,⟨.ref l,H,I,rr,q.one a (.tup h hl)⟩⟩⟩)
  rw[vG,<-g.length];exact O
 simp_all
def Oc:D->D->OB:=PL HB HC
theorem QI:cj X (binaryOp .Mult) (rD X.K Oc):=kW M4 M5
end
structure Gq where
 fs:List (Str×Nat×(List D->OB))
 cs:List (Str×D)
 ds:List (Str×List (Str×D))
 no:List Str
 ls:List Str
structure Gq.Ok (g:Gq)(P:Program)(w:World)(K:Frag)(mg:Str->Option Value)(base:Heap):Prop where
 hx:∃h,K.In h/\h.Ns mainGlobals mg
 fs:∀t∈g.fs,Fn P w K mg base t.2.1 t.1 t.2.2
 cs:∀t∈g.cs,KC K mg t.1 t.2
 ds:∀t∈g.ds,KD w K mg t.1 t.2
 no:∀x∈g.no,mg x=none
 ls:∀x∈g.ls,y0 K x
structure Sq where
 g:Gq
 N:List Str
 sc:Scope
 cl:List Str
 k:Nat
 fn:Bool
 q:Option Str
structure Yq (S:Sq) where
 prog:Program
 w:World
 K:Frag
 mg:Str->Option Value
 base:Heap
 A:Around
 s:Shared
 H:Hp
 env:PySem.Env
 outer:List PySem.Env
 stack:List PySem.Env
 ex:List Addr
 rm:cV S.k A
 cl:∀x∈S.cl,(env.cells.lookup x).isSome
 nd:S.N.Nodup
 ok:S.g.Ok prog w K mg base
 ql:∀x,S.q=some x->env.qual=x ++ ".<locals>."/\∀c P,PySem.W.tabIn K x=some (c,P)->env.code=.ref c
noncomputable abbrev bR (S:Sq)(d:Yq S):Cx:=⟨d.prog,d.w,d.K,d.mg,d.base,d.A,S.N,d.s,d.H,{ d.env with scope:=S.sc },d.outer,d.stack,d.ex,λ_=>S.fn,true,[],λ_ _=>False⟩
abbrev qE (S:Sq)(e:Expr)(f:FE):Prop:=∀d:Yq S,JE (bR S d) e f
abbrev Ce (S:Sq)(e:Expr)(f:FT):Prop:=∀d:Yq S,JT (bR S d) e f
abbrev Od (S:Sq)(e:Expr)(f:FT):Prop:=∀d:Yq S,JW (bR S d) e f
abbrev HE (S:Sq)(e:Stmt)(f:FS):Prop:=∀d:Yq S,JS (bR S d) e f
abbrev Oe (S:Sq)(e:List Stmt)(f:FS):Prop:=∀d:Yq S,xx (bR S d) e f
structure Oj {α:Type}(J:α->Prop) where
 f:α
 ok:Bool
 p:ok->J f
abbrev b8 {α:Type}(J:α->Prop):=LN->Option (Oj J×LN)
section
variable {α β γ δ:Type}{J J':α->Prop}{J1:β->Prop}{J2:γ->Prop}{J3:δ->Prop}
noncomputable def bO (k:Nat->b8 J):b8 J
 |[]=>none
 |i::h=>k i h
def Cf:Nat->(LN->b8 J)->b8 J
 |0,k=>k []
 |n+1,k=>bO λi=>Cf n λl=>k (i::l)
noncomputable def cx:(l:List β)->Nat->((a:β)->a∈l->b8 J)->b8 J
 |[],_,_=>λ_=>none
 |a::_,0,k=>k a mX
 |_::l,i+1,k=>cx l i λb h=>k b (mZ _ h)
theorem Cg {a b:Bool}(h:(a && b)=true):a:=by simp_all
theorem Ch {a b:Bool}(h:(a && b)=true):b:=by simp_all
noncomputable def de (c:Prop)[Decidable c](f:α)(k:c->J f):b8 J:=λh=>some (⟨f,decide c,λe=>k (ET e)⟩,h)
noncomputable def o5 (k:∀x,J x->J' x)(m:b8 J):b8 J':=λh=>match m h with
 |some (⟨f,o,p⟩,h)=>some (⟨f,o,λe=>k f (p e)⟩,h)
 |none=>none
noncomputable def bP (c:Prop)[Decidable c](g:α->β)(k:c->∀x,J x->J1 (g x))(m:b8 J):b8 J1:=λh=>match m h with
 |some (⟨f,o,p⟩,h)=>some (⟨g f,decide c && o,λe=>k (ET (Cg e)) f (p (Ch e))⟩,h)
 |none=>none
def cu (c:Prop)[Decidable c](g:α->β->γ)(k:c->∀x y,J x->J1 y->J2 (g x y))(m:b8 J)(n:b8 J1):b8 J2:=λh=>match m h with
 |some (⟨f,o,p⟩,h)=>bP (c/\o) (g f) (λe y=>k e.1 f y (p e.2)) n h
 |none=>none
def yF (c:Prop)[Decidable c](g:α->β->γ->δ)(k:c->∀x y z,J x->J1 y->J2 z->J3 (g x y z))(m:b8 J)(n:b8 J1)(o:b8 J2):b8 J3:=λh=>match m h with
 |some (⟨f,b,p⟩,h)=>cu (c/\b) (g f) (λe y z=>k e.1 f y z (p e.2)) n o h
 |none=>none
end
abbrev lX (S:Sq)(i:Nat)(x:Str):Prop:=S.N[i]? = some x/\(S.sc.names.lookup x=some .local\/S.sc.names.lookup x=some .cell\/S.sc.names.lookup x=some .free)/\(x == ("__debug__" : Str))=false/\(x == ("__classdict__" : Str))=false
abbrev f7 (S:Sq)(i:Nat)(x:Str):Prop:=S.N[i]? = some x/\(S.sc.names.lookup x=some .local\/S.sc.names.lookup x=some .cell)/\(S.fn\/S.sc.names.lookup x=some .local)
abbrev qF (S:Sq)(x y:Str):Prop:=x=y/\S.sc.names.lookup x=some .globalImplicit/\(x == ("__debug__" : Str))=false
abbrev fY (S:Sq)(x y:Str):Prop:=qF S x y/\x∈S.g.no/\x ≠ "__name__"
noncomputable def bu:Expr->Bool
 |.Starred .. | .Slice .. | .Set .. | .SetComp .. | .DictComp ..=>false
 |_=>true
def qG:Expr->Bool
 |.ListComp ..=>false
 |e=>bu e
noncomputable def Of:Expr->Bool
 |.UnaryOp .Not .. | .BoolOp .. | .IfExp .. | .Compare ..=>false
 |_=>true
noncomputable def tV:Expr->Bool
 |.Call _ [] ..=>false
 |_=>true
section
variable {e:Expr}{es:QD}{env:PySem.Env}{p:Pos}
theorem aB (h:bu e):starEach (e::es) env=(false,eval e env)::starEach es env:=by cases e<;>first|rfl|cases h
theorem nw:∀ {es:QD},(∀e∈es,bu e)->(backTo p (starEach es env)).any (·.1)=false
 |[],_=>rr
 |e::es,h=>by
  have:=nw (es:=es) λa m=>h a (by simp[m]);rw[aB (h e V9)];simp_all [backTo]
theorem lY (h:bu e)(x:Value):foldedSetIterable e env x=pure x:=by cases e<;>first|rfl|cases h
theorem lZ {op:CmpOp}(h:bu e):behindInMarks op e=false:=by cases e<;>first|rfl|cases h
theorem qH (h:bu e):lA e:=by cases e<;>first|(intro _ _;rfl)|cases h
theorem ie {t:Expr}{n:Nat}(h:qG e):swapsWith e (some t) n env=pure false:=by cases e<;>first|rfl|cases h
theorem ig {a:Str}{w:Sem Value}(h:tV e):attributeBase e a env w=w:=by
 cases e with
 |Call f M=>cases M with
  |nil=>cases h
  |cons b l=>cases f<;>rfl
 |_=>rfl
theorem fF (h:bu e):((backTo p (starEach [e] env)).all (λx=>!x.1) && (backToKw p (keywordEach [] env)).all (λx=>x.1.isSome) && decide (([e]:QD).length+([]:List Keyword).length+(if([]:List Keyword).isEmpty then 0 else 1)<30))=true:=by
 rw[aB h];rfl
theorem HF (h:Of e)(M:Sem Value):isTrue e env M=(do let v <-M;standAt e.pos;holding [v] (truthy v)):=by
 cases e with
 |UnaryOp op=>cases op<;>first|rfl|cases h
 |_=>first|rfl|cases h
end
structure Bq where
 op:Operator
 f:D->D->OB
 p:∀ {X:Cx},cj X (binaryOp op) (rD X.K f)
structure Cq where
 op:CmpOp
 f:D->D->OB
 p:∀ {X:Cx},X.A.units+40<cLine->cj X (compareOp op) (rD X.K f)
structure Tq where
 x:Str
 n:String
 b:bootBuiltins x=some (.type n)
structure Fq where
 x:Str
 f:List D->OB
 c:∀ {X:Cx}{e:Expr}{es:List Expr}{fa:FA}{p q:Pos},X.calm->X.mg x=none->JA X (e::es) fa->Gl X x->x ≠ "__name__"->(x == ("__debug__" : Str))=false->starEach (e::es) X.env=(false,eval e X.env)::starEach es X.env->(backTo q (starEach es X.env)).any (·.1)=false->JE X (.Call (.Name x p) (e::es) [] q) (fA f fa)
noncomputable def qI {x:Str}{i:String}{f:LD->OB}(b:bootBuiltins x=some (.builtin i))(c:∀ {X:Cx},X.calm->bH X (.builtin i) (Ae X.K f)):Fq:=⟨x,f,λh m a g n d s t=>FY (c h) m b a g n d s t⟩
noncomputable def HG {x:Str}{i:String}{f:LD->OB}(b:bootBuiltins x=some (.type i))(c:∀ {X:Cx},X.calm->bH X (.type i) (Ae X.K f)):Fq:=⟨x,f,λh m a g n d s t=>DH (c h) m b a g n d s t⟩
structure Uq where
 x:Str
 y:Str
 f:D->OB
 p:∀ {X:Cx}{e:Expr}{g:FE}{p p2 q q2:Pos},X.calm->X.mg x=none->X.mg y=none->JE X e g->Gl X x->Gl X y->starEach [e] X.env=[(false,eval e X.env)]->JE X (.Call (.Name x p) [.Call (.Name y p2) [e] [] q2] [] q) (f1 f g)
structure Mq where
 n:Str
 f:D->D->OB
 p:∀ {X:Cx}{o e:Expr}{fo fe:FE}{ap cp:Pos},X.A.units+1<cLine->JE X o fo->JE X e fe->tV o->bu e->ap.endLine == cp.line->JE X (.Call (.Attribute o n ap) [e] [] cp) (f2 f fo fe)
def QJ:List Bq:=[⟨_,_,Ub⟩,⟨_,_,Qd⟩,⟨_,_,Q3⟩,⟨_,_,Uf⟩,⟨_,_,PZ⟩,⟨_,_,Ud⟩,⟨_,_,QF⟩,⟨_,_,PM⟩,⟨_,_,QI⟩,⟨_,_,Ue⟩]
def AG:List Cq:=[⟨_,_,λ_=>Ur⟩,⟨_,_,Xx⟩,⟨_,_,λ_=>Xz⟩,⟨_,_,λ_=>Uo⟩,⟨_,_,λ_=>Ut⟩,⟨_,_,Xw⟩,⟨_,_,λ_=>LH⟩,⟨_,_,λ_=>Xs⟩,⟨_,_,λ_=>Xr⟩,⟨_,_,λ_=>Gc⟩,⟨_,_,UF⟩]
noncomputable def QK:List Tq:=[⟨_,_,Uv⟩,⟨_,_,Qa⟩,⟨_,_,BB⟩,⟨_,_,Uw⟩,⟨_,_,Ai⟩]
def QL:List Fq:=[qI lK λ_=>vv,qI NT λ_=>Uk,qI Uu λh=>U1 h,qI lK λ_=>Ef,HG BB λ_=>LW,qI qi λ_=>GI,HG Q4 λh=>Q5 h,qI U3 λh=>U2 h,qI qi λh=>Es h,HG Ai λ_=>Qp]
def QM:List Uq:=[⟨_,_,_,λa b c d e f g=>A0 a b c d e f g⟩,⟨_,_,_,λa b c d e f g=>Ea a b c d e f g⟩,⟨_,_,_,λa b c d e f g=>yE a b c d e f g⟩]
def QN:List Mq:=[⟨_,_,λ_ x y a b c=>HA x y (ig a) (fF b) c (aB b)⟩,⟨_,_,λhu x y a b c=>GW hu x y ⟨ig a,fF b,c,by rw[aB b];rfl⟩⟩,⟨_,_,λ_ x y a b c=>Qh PySem.F.slot_str_join PySem.F.type_str_join Qk Gn x y (ig a) (fF b) c (aB b)⟩]
structure Rj where
 E:∀S e,b8 (qE S e)
 T:∀S e,b8 (Ce S e)
 W:∀S e,b8 (Od S e)
noncomputable def HH (o sc:Scope):Scope:={ sc with names:=sc.names.map λ(n,k)=>if(k == .free && o.kind == .function && o.names.lookup n == some .cell)then (n,.cell)else (n,k) }
noncomputable def HI (sc:Scope):LS:=sc.names.filterMap λy=>if y.2=.free then some y.1 else none
def w4 (S:Sq)(N:LS)(sc:Scope):Sq:=⟨S.g,N,HH S.sc sc,HI sc,S.k,false,S.q⟩
abbrev US (S:Sq)(N:LS)(sc M:Scope)(j i:Nat):Prop:=∃x∈N[j]?,S.N[i]? = some x/\(S.sc.names.lookup x=some .cell\/S.sc.names.lookup x=some .free)/\(M.names.lookup x=some .cell\/M.names.lookup x=some .free)/\(x,NameKind.free)∈sc.names/\x∈S.cl
noncomputable def qJ (S:Sq)(N:LS)(sc M:Scope):Nat->LN->Bool
 |j,[]=>N.length=j
 |j,i::r=>US S N sc M j i && qJ S N sc M (j+1) r
section
variable {S:Sq}{N:LS}{sc:Scope}
theorem ny (d:Yq S):∀ {cap:LN}{j:Nat},qJ S N sc (HH S.sc sc) j cap->ly (bR S d) N sc (cZ sc.names d.env.cells []) j cap
 |[],_,h=>.nil (ET h)
 |_::_,_,h=>let ⟨_,e,a,b,c,f,g⟩:=ET (Cg h);.cons e a b c (p6 f (d.cl _ g)) (ny d (Ch h))
abbrev HJ (S:Sq)(N:LS)(sc:Scope):Prop:=N.Nodup/\(∀y∈sc.names,y.2≠.cell)/\sc.kind=.function/\(∀y∈sc.names,y.2=.local->sc.names.lookup y.1=some .local)/\∀y∈sc.names,y.2=.free->y.1∈S.cl
theorem nA (d:Yq S)(h:∀z∈sc.names,z.2=.free->z.1∈S.cl):(sc.names.all λy=>!(y.2 == NameKind.free) || (d.env.cells.lookup y.1).isSome)=true:=by
 rw[all_eq_true];intro y hy;cases hk:y.2 == NameKind.free with
 |false=>rfl
 |true=>exact d.cl _ (h y hy (by simpa using hk))
theorem yG (d:Yq S)(h:∀z∈sc.names,z.2=.free->z.1∈S.cl):∀x∈HI sc,((cZ sc.names d.env.cells []).lookup x).isSome:=λx hx=>by
 obtain⟨⟨M,k⟩,hy,e⟩:=mem_filterMap.mp hx;split at e
 .rename_i hk;cases e
  cases hk
  rw[p6 hy (d.cl _ (h _ hy rr))];exact d.cl _ (h _ hy rr)
 .cases e
def Yq.inn (d:Yq S)(h:HJ S N sc)(C:Addr)(s:Shared)(H:Hp)(fp:List Addr):Yq (w4 S N sc):=⟨d.prog,d.w,d.K,d.mg,d.base,d.A,s,H,compEnvC sc (cZ sc.names d.env.cells []) C { d.env with scope:=S.sc },d.stack,d.stack,fp,d.rm,yG d h.2.2.2.2,h.1,d.ok,d.ql⟩
end
section
variable (r:Rj) (S:Sq)
def qK:(es:QD)->b8 λf=>∀d,JA (bR S d) es f
 |[]=>de True av λ_ _=>mS
 |e::es=>cu (bu e) ao (λh _ _ x y d=>gB (x d) (y d) (aB h)) (r.E S e) (qK es)
def Og:(e:Option Expr)->b8 λf=>∀d,JO (bR S d) e f
 |none=>de True eO λ_ _=>LC
 |some e=>bP True dE (λ_ _ x d=>LF (x d)) (r.E S e)
def HK (i:Nat)(p:Pos):(a:Expr)->(ops:List CmpOp)->(bs:QD)->b8 λf=>qE S (.Compare a ops bs p) f/\Ce S (.Compare a ops bs p) (bD f)
 |a,[op],[b]=>cx AG i λ⟨M,f,q⟩ _=>cu (op=M/\bu b) (f2 f) (λ⟨h,k⟩ _ _ x y=>by
   subst h;exact⟨λd=>P4 (q (lJ d.rm)) (x d) (y d) (lZ k),λd=>P5 (q (lJ d.rm)) (x d) (y d) (lZ k)⟩) (r.E S a) (r.E S b)
 |a,[op,M],[b,c]=>bO λj=>cx AG i λ⟨U,f,q⟩ _=>cx AG j λ⟨e,g,O⟩ _=>yF (op=U/\M=e/\bu c) (jp f g) (λ⟨h,h',k⟩ _ _ _ x y z=>by
   subst h h';have hm:lastMarks [op,M] [b,c]=false:=lZ k;exact⟨λd=>FQ (q (lJ d.rm)) (O (lJ d.rm)) (x d) (y d) (z d) hm,λd=>FR (q (lJ d.rm)) (O (lJ d.rm)) (x d) (y d) (z d) hm⟩) (r.E S a) (r.E S b) (r.E S c)
 |_,_,_=>λ_=>none
def Oh (tg it:Expr):b8 λf=>∀d,JI (bR S d) tg it f:=bO λi=>match i,tg,it with
  |0,_,e=>bP True cb (λ_ _ x d=>Qg (x d)) (r.E S e)
  |2,_,.Call (.Name x _) [a] [] _=>bP (fY S x "range"/\bu a) kX (λ⟨⟨⟨h,g⟩,m⟩,n⟩ _ x d=>by subst h;exact Gg (d.ok.no _ m.1) (x d) g.1 (aB n)) (r.E S a)
  |3,.Tuple ..,.Call (.Name x _) [a] [] _=>bP (fY S x "enumerate"/\bu a) G2 (λ⟨⟨⟨h,g⟩,m⟩,n⟩ _ x d=>by subst h;exact LZ (d.ok.no _ m.1) (x d) g.1 (aB n)) (r.E S a)
  |4,.Tuple ..,.Call (.Name x _) [a,b] [] _=>cu (fY S x "zip"/\bu a/\bu b) Gs (λ⟨⟨⟨h,g⟩,m⟩,n,k⟩ _ _ x y d=>by subst h;exact Qn (d.ok.no _ m.1) (x d) (y d) g.1 (by rw[aB n,aB k];rfl) (aB k)) (r.E S a) (r.E S b)
  |5,_,.Call (.Attribute e n ap) [] [] cp=>bP (n = "values"/\tV e/\ap.endLine == cp.line) wy (λ⟨h,n,l⟩ _ x d=>by subst h;exact Mv (x d) (ig n) l) (r.E S e)
  |6,.Tuple ..,.Call (.Attribute e n ap) [] [] cp=>bP (n = "items"/\tV e/\ap.endLine == cp.line) Cb (λ⟨h,n,l⟩ _ x d=>by subst h;exact Ht (x d) (ig n) l) (r.E S e)
  |7,_,.Call (.Name x _) [a] [] _=>bP (fY S x "reversed"/\bu a) M2 (λ⟨⟨⟨h,g⟩,m⟩,n⟩ _ x d=>by subst h;exact QC (d.ok.no _ m.1) (x d) g.1 (aB n)) (r.E S a)
  |_,_,_=>λ_=>none
def UT:(es:QD)->b8 λf=>∀d,JC (bR S d) es f
 |[]=>de True pP λ_ _=>Px
 |[e]=>o5 (λ_ x d=>Py (x d)) (r.T S e)
 |_=>λ_=>none
theorem tW (d:Yq S){i:Nat}{x:Str}{p:Pos}(h:f7 S i x):PG (bR S d) (.Name x p) (gQ i):=pgV i d.nd h.1 h.2.1 h.2.2
theorem Oi (d:Yq S){i j k:Nat}{x y:Str}{p q s:Pos}(h:f7 S i x)(g:f7 S j y):PG (bR S d) (.Tuple [.Name x p,.Name y q] k s) (Fk d.K 2 (iH [i,j])):=zP rr (eM (tW S d h) (eM (tW S d g) px))
def UU:(tg:Expr)->Option ((N:LS) ×' (n:Nat) ×' (M:FG) ×' ∀S:Sq,(∀i (h:i<N.length),f7 S i N[i])->∃t:Frag->TG,(∀d:Yq S,PG (bR S d) tg (t d.K))/\∀K,Lz K n M (t K))
 |.Name x _=>some ⟨[x],1,dS 0,λ_ h=>⟨λ_=>gQ 0,λd=>tW _ d (h 0 V9),λ_=>pO Z9⟩⟩
 |.Tuple [.Name x _,.Name y _] _ _=>some ⟨[x,y],2,DM [0,1],λ_ h=>⟨λK=>Fk K 2 (iH [0,1]),λd=>Oi _ d (h 0 V9) (h 1 V9),λ_=>Gp Z9⟩⟩
 |_=>none
abbrev UV (S:Sq)(e:Expr)(f:FE):Prop:=qE S e f/\∀y M sp i,f7 S i y->(∀d:Yq S,swapsWith e (some (.Name y M)) sp.line (bR S d).env=pure true)->S.sc.names.lookup y=some .local->HE S (.Assign [.Name y M] e sp) (cP i f)
def HL (U tg it:Expr)(e:QD)(f:Int)(sc:Scope)(p:Pos):b8 (UV S (.ListComp U [⟨tg,it,e,f⟩] sc p)):=bO λn=>Cf n λcap=>match UU tg with
 |none=>λ_=>none
 |some ⟨N,n,g,q⟩=>(λM h=>match Oh r S tg it h with
  |none=>none
  |some (⟨fi,o,a⟩,h)=>cu (f=0/\bu it/\o/\HJ S M sc/\qJ S M sc (HH S.sc sc) n cap/\∀i (h:i<N.length),f7 (w4 S M sc) i N[i]) (fw fi n cap g) (λ⟨h,hn,o,O,hc,j⟩ _ _ b c=>by
    subst h;obtain⟨t,pg,tg⟩:=q _ j;exact⟨λd=>UN _ (a o d) (b (d.inn O _ _ _ _)) (c (d.inn O _ _ _ _)) (tg _) (pg (d.inn O _ _ _ _)) (ny d hc) (Mw O.2.1 O.2.2.1 O.2.2.2.1 (nA d O.2.2.2.2)) rr λx=>lY hn x,
     λ_ _ _ _ hy hs hl d=>UO _ d.nd (a o d) (b (d.inn O _ _ _ _)) (c (d.inn O _ _ _ _)) (tg _) (pg (d.inn O _ _ _ _)) (ny d hc) hy.1 hl (hs d) (Mw O.2.1 O.2.2.1 O.2.2.2.1 (nA d O.2.2.2.2)) rr λx=>lY hn x⟩) (UT r (w4 S M sc) e) (r.E (w4 S M sc) U) h) (N++cap.map (S.N.getD · ""))
end
section
variable (r:Rj) (S:Sq)
theorem HM {q y:Str}{an:Option Expr}{ap:Pos}{b:Expr}{sc:Scope}{cl:List (Str×Addr)}{pm M u:Value}{c:Addr}:bindArgs (PySem.W.kla_fn "<lambda>" q ⟨[],[⟨y,an,ap⟩],none,[],[],none,[]⟩ b sc cl pm (.ref c) M) ⟨[u],[]⟩=pure [(y,u)]:=by
 have e:List.lookup y [(y,u)]=some u:=V9
 unfold bindArgs PySem.W.kla_fn;simp[e,seqItems?];rfl
theorem tX {S:Sq}{N:LS}{sc:Scope}(hn:∀z∈sc.names,z.2≠.cell)(d:Yq S):∀ {cap:LN}{j:Nat},qJ S N sc sc j cap->jO (bR S d) N sc (cZ sc.names d.env.cells []) j cap
 |[],_,h=>.nil (ET h)
 |_::_,_,h=>let ⟨_,e,a,b,c,f,g⟩:=ET (Cg h);.cons e a b (c.resolve_left λz=>hn _ (PySem.mem_of_lookup z) rr) (p6 f (d.cl _ g)) (tX hn d (Ch h))
def HN (S:Sq)(N:LS)(sc:Scope):Sq:=⟨S.g,N,sc,HI sc,S.k - 3,false,none⟩
abbrev HP (S:Sq)(N:LS)(sc:Scope)(y:Str)(cap:LN):Prop:=N.Nodup/\(∀z∈sc.names,z.2≠.cell)/\sc.kind=.function/\sc.isCoroutine=false/\sc.isGenerator=false/\sc.names.lookup y=some .local/\(∀z∈sc.names,z.2=.free->z.1∈S.cl)/\3<=S.k/\(∃x∈S.q,x∈jl/\x∈S.g.ls)/\qJ S N sc sc 1 cap
theorem yH {S:Sq}{N:LS}{sc:Scope}{y:Str}{ap p:Pos}{an:Option Expr}{b:Expr}{U:FE}{cap:LN}(h:HP S (y::N) sc y cap)(hb:qE (HN S (y::N) sc) b U)(d:Yq S){A:Around}(e:A.frames=d.A.frames)(hr:cV (S.k - 3+1) A):
  JK (bR S d) A (.Lambda ⟨[],[⟨y,an,ap⟩],none,[],[],none,[]⟩ b sc p) (y6 cap U):=
 let ⟨h1,h2,h3,h4,h5,g,a,_,⟨x,hx,i,M⟩,hc⟩:=h
 Q0 i (d.ok.ls _ M) (d.ql x hx).2 (by show d.env.qual++_=_;rw[(d.ql x hx).1];rfl) rr (UB h2 h3 h4 h5 g (nA d a)) rr (tX h2 d hc) e hr (λ_ _ _ _=>HM) λf c s H O=>hb ⟨d.prog,d.w,d.K,d.mg,d.base,_,s,H,PySem.W.envX _ sc s.z f (.ref c) (cZ sc.names d.env.cells []),d.stack,_,[],O,yG d a,h1,d.ok,λ_ z=>nomatch z⟩
def Ci:(O:Expr)->b8 λkf=>∀d:Yq S,JK (bR S d) d.A.in1 O kf/\JK (bR S d) d.A.in1.in1 O kf
 |.Name x _=>bO λj=>cx S.g.fs j λ⟨y,k,F⟩ m=>de (qF S x y/\k+2<=S.k) (Ed F) λ⟨⟨e,h⟩,hk⟩ d=>by
   subst e;exact⟨NX (d.ok.fs _ m) ((d.rm.mono (vR (le_succ _) hk)).in1) rr h.1 h.2,NX (d.ok.fs _ m) ((d.rm.mono hk).in1.in1) rr h.1 h.2⟩
 |.Lambda ⟨[],[⟨y,an,ap⟩],none,[],[],none,[]⟩ b sc p=>bO λn=>Cf n λcap=>bP (HP S (y::cap.map (S.N.getD · "")) sc y cap) (y6 cap) (λM _ q d=>by
    have hk:S.k - 3+2+1<=S.k:=by have:=M.2.2.2.2.2.2.2.1;lia
    exact⟨yH M q d rr ((d.rm.mono hk).in1.mono (le_succ _)),yH M q d rr (d.rm.mono hk).in1.in1⟩) (r.E (HN S (y::cap.map (S.N.getD · "")) sc) b)
 |_=>λ_=>none
def QO (p:Pos):(f:Expr)->(O:QD)->(ks:List Keyword)->b8 (qE S (.Call f O ks p))
 |.Name x _,e::es,[]=>bO λi=>
  if i<100 then cx S.g.fs i λ⟨y,k,F⟩ m=>bP (qF S x y/\k<=S.k/\∀a∈e::es,bu a) (fA F) (λ⟨⟨u,h⟩,hk,hn⟩ _ a d=>by
   subst u;exact UK (d.ok.fs _ m) d.rm (a d) hk h.1 h.2 (aB (hn e V9)) (nw λa m=>hn a (by simp[m]))) (qK r S (e::es))
  else if i=199 then de True Ob λ_ _=>Mr
  else if i<140 then cx QL (i - 100) λ⟨y,f,c⟩ _=>bP (fY S x y/\∀a∈e::es,bu a) (fA f) (λ⟨⟨⟨u,h⟩,k⟩,hn⟩ _ a d=>by
   subst u;exact c rr (d.ok.no _ k.1) (a d) h.1 k.2 h.2 (aB (hn e V9)) (nw λa m=>hn a (by simp[m]))) (qK r S (e::es))
  else match e,es with
   |.Call (.Name y _) [e] [] _,[]=>cx QM (i - 140) λ⟨U,j,f,q⟩ _=>bP (fY S x U/\fY S y j/\bu e) (f1 f) (λ⟨⟨⟨u,h⟩,k⟩,⟨⟨v,g⟩,l⟩,n⟩ _ a d=>by
    subst u v;exact q rr (d.ok.no _ k.1) (d.ok.no _ l.1) (a d) h.1 g.1 (aB n)) (r.E S e)
   |.Call (.Name y _) [a,b] [] _,[]=>cu (fY S x "list"/\fY S y "zip"/\bu a/\bu b) Zq (λ⟨⟨⟨u,h⟩,k⟩,⟨⟨v,g⟩,l⟩,n,m⟩ _ _ a b d=>by
    subst u v;exact A9 rr (d.ok.no _ k.1) (d.ok.no _ l.1) (a d) (b d) h.1 g.1 (by rw[aB n,aB m];rfl) (aB m) rr) (r.E S a) (r.E S b)
   |_,_=>λ_=>none
 |.Name x _,[e],[⟨some ka,M,_⟩]=>bO λi=>match i with
  |0=>cu (fY S x "max"/\ka = "key"/\bu e) BU (λ⟨⟨⟨u,h⟩,k⟩,v,n⟩ _ _ a b d=>by
   subst u v;exact Oa mmx (d.ok.no _ k.1) (a d) (b d).1 d.rm h.1 (aB n) (by rw[aB n];rfl) (by rw[aB n];rfl) rr rr rr) (r.E S e) (Ci r S M)
  |1=>cu (fY S x "min"/\ka = "key"/\bu e) BV (λ⟨⟨⟨u,h⟩,k⟩,v,n⟩ _ _ a b d=>by
   subst u v;exact Oa mmn (d.ok.no _ k.1) (a d) (b d).1 d.rm h.1 (aB n) (by rw[aB n];rfl) (by rw[aB n];rfl) rr rr rr) (r.E S e) (Ci r S M)
  |3=>cu (fY S x "sorted"/\ka = "key"/\bu e) AD (λ⟨⟨⟨u,h⟩,k⟩,v,n⟩ _ _ a b d=>by
   subst u v;exact NY (Hq (lJ d.rm)) (d.ok.no _ k.1) (a d) (b d).2 h.1 (aB n) (by rw[aB n];rfl) (by rw[aB n];rfl) rr rr rr) (r.E S e) (Ci r S M)
  |_=>cu (fY S x "sorted"/\ka = "key"/\bu e) wu (λ⟨⟨⟨u,h⟩,k⟩,v,n⟩ _ _ a b d=>by
   subst u v;exact NY Q1 (d.ok.no _ k.1) (a d) (b d).2 h.1 (aB n) (by rw[aB n];rfl) (by rw[aB n];rfl) rr rr rr) (r.E S e) (Ci r S M)
 |.Attribute o n ap,[e],[]=>bO λi=>match i,o,e with
  |9,o,.Tuple es _ _=>cu (n = "get"/\tV o/\ap.endLine == p.line) Hk (λ⟨u,a,l⟩ _ _ x y d=>by subst u;exact Hl (Sz (lJ d.rm)) (x d) (y d) ⟨ig a,rr,l,rr⟩) (r.E S o) (qK r S es)
  |i+10,.Subscript (.Name x _) b _,e=>cx S.g.ds i λ⟨y,c⟩ m=>cu (qF S x y/\n = "index"/\bu b/\bu e/\ap.endLine == p.line) (f2 (lh c)) (λ⟨⟨u,h⟩,v,hb,he,hl⟩ _ _ a b d=>by
   subst u v;exact Me (d.ok.ds _ m) (a d) (b d) h.1 h.2 (qH hb) rr (fF he) hl (aB he)) (r.E S b) (r.E S e)
  |i,o,e=>cx QN i λ⟨s,f,q⟩ _=>cu (n=s/\tV o/\bu e/\ap.endLine == p.line) (f2 f) (λ⟨u,a,b,l⟩ _ _ x y d=>by subst u;exact q (Sz (lJ d.rm)) (x d) (y d) a b l) (r.E S o) (r.E S e)
 |_,_,_=>λ_=>none
def QP:(e:Expr)->b8 (qE S e)
 |.Name x _=>bO λi=>
  if i<50 then de (lX S i x) (am i) λh _=>Pz i h.1 h.2.1 h.2.2.1 h.2.2.2
  else if i<80 then cx S.g.cs (i - 50) λ⟨y,c⟩ m=>de (qF S x y) (fC c) λ⟨u,h⟩ d=>by subst u;exact FZ (d.ok.cs _ m) h.1 h.2
  else cx QK (i - 80) λ⟨y,n,b⟩ _=>de (fY S x y) (fC (.ty n)) λ⟨⟨u,h⟩,k⟩ d=>by subst u;exact Ul (d.ok.no _ k.1) b h.1 k.2 h.2
 |.Constant (.int _) ..=>de True _ λ_ _=>P0
 |.Constant (.bool _) ..=>de True _ λ_ _=>TN
 |.Constant .none ..=>de True _ λ_ _=>P1
 |.Constant (.str _) ..=>de True _ λ_ _=>P2
 |.BoolOp _ [a] _=>o5 (λ_ x d=>PF (x d)) (r.E S a)
 |.BoolOp .And (a::b::t) p=>cu True FU (λ_ _ _ x y d=>PD (x d) (y d)) (r.E S a) (r.E S (.BoolOp .And (b::t) p))
 |.BoolOp .Or (a::b::t) p=>cu True TV (λ_ _ _ x y d=>TW (x d) (y d)) (r.E S a) (r.E S (.BoolOp .Or (b::t) p))
 |.UnaryOp .Not a _=>bP True FV (λ_ _ x d=>PH (x d)) (r.E S a)
 |.UnaryOp .USub a _=>bP True (f1 Ga) (λ_ _ x d=>TR Us (x d)) (r.E S a)
 |.BinOp a op b _=>bO λi=>cx QJ i λ⟨M,f,q⟩ _=>cu (op=M) (f2 f) (λh _ _ x y d=>by subst h;exact TQ q (x d) (y d)) (r.E S a) (r.E S b)
 |.Compare a ops bs p=>bO λi=>if i<20 then o5 (λ_ h=>h.1) (HK r S i p a ops bs)else match ops,bs with
  |[.In],[b]=>cu (bu b) (f2 Zp) (λh _ _ x y d=>QA (Sz (lJ d.rm)) (x d) (y d) (lZ h)) (r.E S a) (r.E S b)
  |_,_=>λ_=>none
 |.Subscript a (.Slice lo hi none _) _=>yF True sr (λ_ _ _ _ x y z d=>Gk (x d) (y d) (z d)) (r.E S a) (Og r S lo) (Og r S hi)
 |.Subscript a b _=>bO λi=>match i,a with
  |0,a=>cu (bu b) (f2 eG) (λh _ _ x y d=>Uj (x d) (y d) (qH h)) (r.E S a) (r.E S b)
  |i+2,.Name x _=>cx S.g.ds i λ⟨y,c⟩ m=>bP (qF S x y/\bu b) (f1 (sA c)) (λ⟨⟨u,h⟩,n⟩ _ x d=>by subst u;exact LR (d.ok.ds _ m) (x d) h.1 h.2 (qH n)) (r.E S b)
  |_,_=>λ_=>none
 |.Tuple es _ _=>bP True (fA cn) (λ_ _ x d=>PJ (x d)) (qK r S es)
 |.List es _=>bP True (fA fy) (λ_ _ x d=>PK (x d)) (qK r S es)
 |.ListComp O [⟨tg,it,U,j⟩] sc p=>o5 (λ_ h=>h.1) (HL r S O tg it U j sc p)
 |.Call f l ks p=>QO r S p f l ks
 |_=>λ_=>none
def QQ:(e:Expr)->b8 (Ce S e)
 |.UnaryOp .Not a _=>bP True jm (λ_ _ x d=>PB (x d)) (r.T S a)
 |.BoolOp op es p=>o5 (λ_ x d=>Xm (x d)) (r.W S (.BoolOp op es p))
 |.Compare a ops bs p=>bO λi=>if i<20 then bP True bD (λ_ _ h=>h.2) (HK r S i p a ops bs)else match i,ops,bs with
  |i,[.NotIn],[.Name x q]=>cx S.g.ds (i - 30) λ⟨y,c⟩ m=>bP True bD (λ_ _ x=>x) (bP (J1:=λf=>Ce S (.Compare a [.NotIn] [.Name x q] p) (bD f)) (qF S x y) (f1 (Ap c)) (λ⟨u,h⟩ _ x d=>by subst u;exact Ec (d.ok.ds _ m) (x d) h.1 h.2 rr) (r.E S a))
  |_,_,_=>λ_=>none
 |e=>bP (Of e) bD (λh _ x d=>P6 (x d) (HF h)) (r.E S e)
def QR:(e:Expr)->b8 (Od S e)
 |.BoolOp .Or [a] _=>o5 (λ_ x d=>P8 (x d)) (r.T S a)
 |.BoolOp .Or (a::b::t) p=>cu True iD (λ_ _ _ x y d=>TU (x d) (y d)) (r.T S a) (r.W S (.BoolOp .Or (b::t) p))
 |.BoolOp .And [a] _=>o5 (λ_ x d=>L6 (x d)) (r.T S a)
 |.BoolOp .And (a::b::t) p=>cu True ft (λ_ _ _ x y d=>P9 (x d) (y d)) (r.T S a) (r.W S (.BoolOp .And (b::t) p))
 |_=>λ_=>none
end
def Cj:Nat->Rj
 |0=>⟨λ_ _ _=>none,λ_ _ _=>none,λ_ _ _=>none⟩
 |n+1=>⟨QP (Cj n),QQ (Cj n),QR (Cj n)⟩
def Ol (S:Sq):(tg:Expr)->b8 λM=>∀d:Yq S,∃t,PG (bR S d) tg t/\K9 d.K M t
 |.Name x _=>bO λi=>de (f7 S i x) (dS i) λh d=>⟨_,tW S d h,FN⟩
 |.Tuple [.Name x _,.Name y _] _ _=>bO λi=>bO λj=>de (f7 S i x/\f7 S j y) (DM [i,j]) λh d=>⟨_,Oi S d h.1 h.2,U6⟩
 |_=>λ_=>none
section
variable (B:∀S b,b8 (Oe S b)) (S:Sq)
abbrev df:Rj:=Cj 24
def HQ (p:Pos)(tg it:Expr)(b:List Stmt):b8 (HE S (.For tg it b [] p)):=bO λi=>match i,it with
 |0,it=>yF (bu it) vi (λh _ _ _ x y z d=>let ⟨_,a,k⟩:=y d;UP (x d) a k (z d) PassesOwn.never rr λx=>lY h x) (Oh df S tg it) (Ol S tg) (B S b)
 |_,.Call (.Name x _) [a] [] _=>yF (fY S x "range"/\bu a) t0 (λ⟨⟨⟨u,h⟩,k⟩,n⟩ _ _ _ x y z d=>by
   subst u;obtain⟨t,a,l⟩:=y d;exact UQ (x d h.1 (d.ok.no _ k.1) (aB n)) a l (z d) PassesOwn.never rr λx=>lY rr x)
   (bP (J1:=λf=>∀d:Yq S,Gl (bR S d) "range"->d.mg "range" = none->starEach [a] (bR S d).env=[(false,eval a (bR S d).env)]->∀ {p q:Pos},PI (bR S d) tg (.Call (.Name "range" q) [a] [] p) (TM d.K f)) True kX (λ_ _ x d h m n _ _=>xW m (x d) h n) (df.E S a)) (Ol S tg) (B S b)
 |_,_=>λ_=>none
def HR:(st:Stmt)->b8 (HE S st)
 |.Return (some e) _=>bO λi=>match i,e with
  |0,e=>bP True pf (λ_ _ x d=>FW (x d)) (df.E S e)
  |90,.Tuple [a,b] _ _=>bP True pf (λ_ _ x d=>FW (x d)) (cu (J2:=qE S (.Tuple [a,b] _ _)) (bu a/\bu b) Hx (λh _ _ x y d=>M0 (x d) (y d) (aB h.1) (aB h.2)) (df.E S a) (df.E S b))
  |i+1,.Name x _=>de (lX S i x) (oj i) λh _=>L8 i h.1 h.2.1 h.2.2.1 h.2.2.2
  |_,_=>λ_=>none
 |.If c a b _=>yF True p5 (λ_ _ _ _ x y z d=>Uh (x d) (y d) (z d)) (df.T S c) (B S a) (B S b)
 |.Assign [.Name x q] (.ListComp M [⟨tg,it,O,U⟩] sc p) sp=>bO λi=>if i<50 then bP (f7 S i x/\S.sc.names.lookup x=some .local/\S.sc.kind=.function/\(q.line == p.line)/\(sc.names.any λ(n,k)=>n == x && (k == .local || k == .cell))=false) (cP i) (λh _ y=>y.2 _ _ _ _ h.1 (λd=>by
   show pure ((if S.sc.kind.isAnnotationScope then ScopeKind.function else S.sc.kind) == ScopeKind.function && S.sc.names.lookup x == some NameKind.local && q.line == p.line && !(sc.names.any λ(n,k)=>n == x && (k == .local || k == .cell)))=_;rw[h.2.2.2.2,h.2.2.2.1,h.2.1,h.2.2.1];rfl) h.2.1) (HL df S M tg it O U sc p)
  else λ_=>none
 |.Assign [.Tuple [.Name x _,.Name y _] _ _] (.Subscript a b q) _=>bO λi=>bO λj=>bP (f7 S i x/\f7 S j y) (BI [i,j]) (λh _ x d=>LX (x d) (Qq rr (eM (tW S d h.1) (eM (tW S d h.2) px)) rfl rfl) rr rr rr) (df.E S (.Subscript a b q))
 |.Assign [.Name x _] (.Dict [] [] _) _=>bO λv=>bO λi=>match v with
  |0=>de (f7 S i x) (GX i) λh d=>Mn d.nd h.1 h.2.1 rr h.2.2
  |1=>de (f7 S i x) (GY i) λh d=>Mo d.nd h.1 h.2.1 rr h.2.2
  |_=>λ_=>none
 |.Assign [.Name x _] e _=>bO λv=>bO λi=>match v with
  |0=>bP (f7 S i x/\qG e) (cP i) (λh _ x d=>PU d.nd (x d) h.1.1 h.1.2.1 (ie h.2) h.1.2.2) (df.E S e)
  |1=>bP (f7 S i x/\qG e) (B3 i) (λh _ x d=>L9 d.nd (x d) h.1.1 h.1.2.1 (ie h.2) h.1.2.2) (df.E S e)
  |_=>λ_=>none
 |.Assign [.Subscript (.Name y _) k _] e _=>bO λv=>bO λi=>match v,k with
  |0,k=>cu (lX S i y/\bu k/\qG e) (G0 i) (λh _ _ x z d=>Qr (z d) (x d) h.1.1 h.1.2.1 h.1.2.2.1 h.1.2.2.2 (by have:=h.2.1;intro _;cases k<;>first|rfl|cases this) (by unfold swapsWithSole;exact ie h.2.2) rr rr) (df.E S k) (df.E S e)
  |1,k=>cu (lX S i y/\qG e) (y9 i) (λh _ _ x z d=>Mp (Sz (lJ d.rm)) (z d) (x d) h.1.1 h.1.2.1 h.1.2.2.1 h.1.2.2.2 (ie h.2)) (df.E S k) (df.E S e)
  |2,k=>cu (lX S i y/\qG e) (qD i) (λh _ _ x z d=>Hu (Sz (lJ d.rm)) (z d) (x d) h.1.1 h.1.2.1 h.1.2.2.1 h.1.2.2.2 (ie h.2)) (df.E S k) (df.E S e)
  |3,.Tuple es _ _=>cu (lX S i y/\qG e) (BZ i) (λh _ _ x z d=>Ms (Sz (lJ d.rm)) (z d) (x d) h.1.1 h.1.2.1 h.1.2.2.1 h.1.2.2.2 (ie h.2)) (qK df S es) (df.E S e)
  |_,_=>λ_=>none
 |.For tg it b [] p=>bO λn=>match n with
  |0=>HQ B S p tg it b
  |n=>Cf n λu=>bP True (X4 u) (λ_ _ x d=>U8 u (x d)) (HQ B S p tg it b)
 |.While c b [] _=>bO λn h=>match df.T S c h with
  |none=>none
  |some (⟨f,o,p⟩,h)=>match B S b h with
   |none=>none
   |some (⟨g,o',r⟩,h)=>some (⟨cA f g n,o && o',λe d=>FX n PassesOwn.never (p (Cg e) d) (r (Ch e) d)⟩,h)
 |.Expr (.Call (.Attribute (.Name x _) m ap) [e] [] cp) _=>bO λv=>bO λi=>match v with
  |0=>bP (lX S i x/\m = "append"/\bu e/\ap.endLine == cp.line) (vh i) (λ⟨h,u,n,l⟩ _ x d=>by subst u;exact PY (x d) h.1 h.2.1 h.2.2.1 h.2.2.2 rr (fF n) l (aB n) rr) (df.E S e)
  |1=>bP (lX S i x/\m = "extend"/\bu e/\ap.endLine == cp.line) (Aq i) (λ⟨h,u,n,l⟩ _ x d=>by subst u;exact Qt (x d) h.1 h.2.1 h.2.2.1 h.2.2.2 rr (fF n) l (aB n) rr) (df.E S e)
  |_=>λ_=>none
 |.Expr (.Call (.Attribute (.Name x _) m ap) [] [] cp) _=>bO λi=>de (lX S i x/\m = "pop"/\ap.endLine == cp.line) (Qs i M3) λ⟨h,u,l⟩ d=>by subst u;exact QH h.1 h.2.1 h.2.2.1 h.2.2.2 rr l rr
 |.Raise ..=>de True pV λ_ _=>Gw
 |.Continue _=>de True Gu λ_ _=>LQ
 |_=>λ_=>none
end
def qL:Nat->∀S b,b8 (Oe S b)
 |0,_,_=>λ_=>none
 |_+1,_,[]=>de True eN λ_ _=>PQ
 |n+1,S,[st]=>o5 (λ_ x d=>PR (x d)) (HR (qL n) S st)
 |n+1,S,st::t::l=>cu True bd (λ_ _ _ x y d=>L7 (x d) (y d)) (HR (qL n) S st) (qL n S (t::l))
noncomputable def AH {α:Type}{J:α->Prop}:Option (Oj J×LN)->Option α
 |some (⟨f,_,_⟩,_)=>some f
 |none=>none
noncomputable def AI {α:Type}{J:α->Prop}:Option (Oj J×LN)->Bool
 |some (⟨_,o,_⟩,_)=>o
 |none=>false
theorem M6 {α:Type}{J:α->Prop}{g:α}:∀ {o:Option (Oj J×LN)},AI o=true->J ((AH o).getD g)
 |some (⟨_,_,p⟩,_),k=>p k
@[simp] noncomputable abbrev au (o:Option FS)(g:FS)(_:o=some g):FS:=g
noncomputable def UW (n:Nat)(l:List Stmt):List Stmt:=
 if 999<n then l[n - 1000]?.toList else
 match l[n / 2]?,n % 2 with
 |some (.For _ _ b _ _),_=>b
 |some (.While _ b _ _),_=>b
 |some (.If _ a _ _),0=>a
 |some (.If _ _ b _),_=>b
 |_,_=>[]
structure Wq where
 G:Gq
 x:Str
 st:Stmt
 N:List Str
 k:Nat
 h:List Nat
def Wq.S (w:Wq):Sq:=⟨w.G,w.N,a8 w.st,(a8 w.st).names.filterMap λy=>if(a8 w.st).names.lookup y.1=some .cell then some y.1 else none,w.k,true,if w.x∈w.G.ls then some w.x else none⟩
def Wq.r (w:Wq):Option FS:=AH (qL 40 w.S (bC w.st) w.h)
def Wq.b (w:Wq)(l h:LN):Option FS:=AH (qL 40 w.S (l.foldl (λl n=>UW n l) (bC w.st)) h)
noncomputable def Wq.gt (w:Wq)(F:LD->OB):Gq:=⟨(w.x,w.k+1,F)::w.G.fs,w.G.cs,w.G.ds,w.G.no,w.G.ls⟩
section
variable {P:Program}{w:World}{K:Frag}{mg:SV}{base:Heap}
abbrev ma (w:World)(K:Frag)(mg:SV)(g:Gq):Prop:=∀ {P base},g.Ok P w K mg base
theorem Wq.js (W:Wq)(o:AI (qL 40 W.S (bC W.st) W.h))(M:W.G.Ok P w K mg base)
  {f:Addr}{cW:Value}{A:Around}{outer:List PySem.Env}{s:Shared}{H:Hp}{E:XK}(nd:W.N.Nodup) (hr:cV W.k (A.deeper (envOfC W.x (a8 W.st) s.z f cW))) (hc:W.x∈W.G.ls->∀c P,PySem.W.tabIn K W.x=some (c,P)->cW=.ref c):
  xx (oZ xE P w K mg base W.N W.x (a8 W.st) f cW A outer s H E).nox (bC W.st) (W.r.getD pV):=by
 refine M6 o ⟨P,w,K,mg,base,_,s,H,envOfC W.x (a8 W.st) s.z f cW,outer,envOfC W.x (a8 W.st) s.z f cW::outer,[],hr,λy hy=>?_,nd,M,λy e=>?_⟩
 .obtain⟨z,hz,e⟩:=mem_filterMap.mp hy;split at e
  .cases e;exact Option.isSome_iff_exists.mpr (pK ‹_›)
  .cases e
 .have e:(if W.x∈W.G.ls then some W.x else none)=some y:=e;split at e
  .cases e;exact⟨rr,hc ‹_›⟩
  .cases e
theorem Wq.o {O:LD->OB}(W:Wq)(F:bM K W.x W.st)(U:ma w K mg W.G)(n:Nat)
  (o:AI (qL 40 W.S (bC W.st) W.h):=by decide +kernel)
  (S:FnScope W.N (W.N.take n) (a8 W.st):=by refine⟨rr,rr,rr,?_,rr,?_,?_⟩<;>decide +kernel)
  (M:∀(kV doc pm:Value)(an:Option Addr)(cW ct:Value)(us:LU),us.length=(W.N.take n).length->bindArgs (fnOf W.x W.x (eF W.st) (bC W.st) (a8 W.st) .none kV doc pm an cW ct) ⟨us,[]⟩=pure ((W.N.take n).zip us):=by
   exact λ_ _ _ _ _ _=>Q9 _ _ (by(repeat intro);rfl))
  (e:ax (W.r.getD pV) (W.N.take n).length (W.N.length - (W.N.take n).length)=O:=by kernel_rfl):ma w K mg (W.gt O):=λ{P base}=>
 have q:W.G.Ok P w K mg base:=U
 ⟨q.hx,λt h=>by
  rcases vP h with h|h
  .subst h;exact F.fqL q.hx _ W.N n (λnd hr _ hc=>W.js o q nd hr λ_=>hc) S M e
  .exact q.fs _ h,q.cs,q.ds,q.no,q.ls⟩
end
end DL
namespace DL
open PySem L2
theorem fZ (I:Nat->Env->Prop)(ds:LD)(O:Env)(h0:I 0 O)
  (step:∀i d ρ,ds[i]? = some d->I i ρ->∃M ρ',tg d ρ=some M/\(g M=some (.nx ρ')\/g M=some (.ct ρ'))/\I (i+1) ρ'):
  ∃ρ',cB tg g ds O=some (.nx ρ')/\I ds.length ρ':=by
 have key:∀(es:LD)(i:Nat)(ρ:Env),ds.drop i=es->i+es.length=ds.length->I i ρ->∃ρ',cB tg g es ρ=some (.nx ρ')/\I ds.length ρ':=by
  intro es;induction es with
  |nil=>simp_all
  |cons d es a=>
   intro i ρ e hl h;have hd:ds[i]? = some d:=by
    have:(ds.drop i)[0]? = some d:=by rw[e];rfl
    grind
   obtain⟨M,ρ',h1,h2,h3⟩:=step i d ρ hd h;have he:ds.drop (i+1)=es:=by rw[<-List.drop_drop,e];rfl
   obtain⟨U,k1,k2⟩:=a _ _ he (by simp at hl;lia) h3;refine⟨U,?_,k2⟩;simp_all<;>lia
 exact key ds 0 _ V9 V9 h0
theorem me (n:Nat)(I:Nat->Env->Prop)(O:Env)(h0:I 0 O)
  (step:∀(i:Nat) ρ,i<n->I i ρ->∃M ρ',tg (.int (i:Int)) ρ=some M/\(g M=some (.nx ρ')\/g M=some (.ct ρ'))/\I (i+1) ρ'):
  ∃ρ',cB tg g (fQ 0 n) O=some (.nx ρ')/\I n ρ':=by
 have hl:(fQ 0 n).length=n:=by simp[fQ]
 obtain⟨ρ',h1,h2⟩:=fZ I (fQ 0 n) _ h0 λi d ρ hd h=>by
  unfold fQ at hd;rw[uZ]at hd;obtain⟨k,hk,hd⟩:=oY hd;obtain⟨U,hk⟩:=vV hk;rw[length_range]at U;rw[List.getElem_range]at hk;subst hk;rw[Int.zero_add]at hd;subst hd;exact step i ρ U h
 simp_all
theorem gK {α:Type}{xs:List α}{j:Nat}(h:j<xs.length):l5 xs (j:Int)=some xs[j]:=Lj (by simp )
theorem w6 {α:Type}{xs:List α}{i:Int}(h0:0<=i)(h:i.toNat<xs.length):l5 xs i=some xs[i.toNat]:=by
 have:=gK h;rwa [Int.toNat_of_nonneg h0]at this
@[simp] theorem eV (xs:LI):aQ (xs.map D.int)=true:=by
 induction xs with
 |nil=>simp
 |cons x xs M=>simp[M]
@[simp] theorem KG (n:Nat)(xs:LI):(xs.map D.int).all (aH n)=true:=by
 simp
@[simp] theorem M7 (xs:LI):(xs.map D.int).all gT=true:=by
 simp
theorem Et (n:Nat):fQ 0 n=((List.range n).map λ(k:Nat)=>(k:Int)).map D.int:=by
 simp_all[fQ]
mutual
noncomputable def mf:D->D->Bool
 |.non,.non=>true
 |.bl a,.bl b=>a == b
 |.int a,.int b=>decide (a=b)
 |.str a,.str b=>decide (a=b)
 |.ty a,.ty b=>decide (a=b)
 |.tup xs,.tup ys=>qM xs ys
 |.lst xs,.lst ys=>qM xs ys
 |_,_=>false
noncomputable def qM:LD->LD->Bool
 |[],[]=>true
 |x::xs,y::ys=>mf x y && qM xs ys
 |_,_=>false
end
mutual
theorem Ck:∀ {x y:D},mf x y=true->x=y
 |.non,.non,_=>rr
 |.bl a,.bl b,h=>by rw[show a=b from eq_of_beq h]
 |.int a,.int b,h=>by rw[show a=b from of_decide_eq_true h]
 |.str a,.str b,h=>by rw[show a=b from of_decide_eq_true h]
 |.ty a,.ty b,h=>by rw[show a=b from of_decide_eq_true h]
 |.tup xs,.tup ys,h=>by rw[qN h]
 |.lst xs,.lst ys,h=>by rw[qN h]
theorem qN:∀ {xs ys:LD},qM xs ys=true->xs=ys
 |[],[],_=>rr
 |x::xs,y::ys,h=>by
  have h:=Bool.and_eq_true_iff.mp h;rw[Ck h.1,qN h.2]
end
noncomputable def Wo (r:OB)(d:D)(b:Bool):Bool:=match r with
 |some (e,c)=>mf e d && c == b
 |none=>false
theorem w9 (h:Wo r d b=true):r=some (d,b):=by
 rcases r with _|⟨e,c⟩
 .cases h
 .have h:=Bool.and_eq_true_iff.mp h;rw[Ck h.1,eq_of_beq h.2]
section
variable {f:FE}{c:FT}{g g' h:FS}{ρ ρ':Env}{i:Nat}{d:D}{b:Bool}{r:Option Res}{ds:LD}
theorem ah (hl:ds.length=n)(e:g (ds.map (λd=>some (d,false))++List.replicate k none)=some (.rt d b)):ax g n k ds=some (d,b):=by
 unfold ax;rw[if_pos hl,e]
theorem Eu (n:aI d=true):setE ρ i d b=ρ.set i (some (d,false)):=by unfold setE;rw[if_pos n]
theorem HS (n:aQ ds=true):setE ρ i (.lst ds) true=ρ.set i (some (.lst ds,true)):=by
 simp_all
theorem Om (e:f ρ=some (d,b))(k:h (setE ρ i d b)=r):bd (cP i f) h ρ=r:=by simp[e];exact k
theorem AJ (e:f ρ=some (d,b))(n:aI d=true)(k:h (ρ.set i (some (d,false)))=r):bd (cP i f) h ρ=r:=Om e (by rw[Eu n];exact k)
theorem b9 (e:f ρ=some (.lst ds,true))(n:aQ ds=true)(k:h (ρ.set i (some (.lst ds,true)))=r):bd (cP i f) h ρ=r:=Om e (by rw[HS n];exact k)
theorem bv (e:g ρ=some (.nx ρ'))(k:h ρ'=r):bd g h ρ=r:=by unfold bd;rw[e];exact k
theorem HU (e:g ρ=some (.rt d b)):bd g h ρ=some (.rt d b):=by unfold bd;rw[e]
theorem XB (e:g ρ=some (.ct ρ')):bd g h ρ=some (.ct ρ'):=by unfold bd;rw[e]
theorem kx (e:c ρ=some true)(k:g ρ=r):p5 c g g' ρ=r:=by unfold p5;rw[e];exact k
theorem gL (e:c ρ=some false)(k:g' ρ=r):p5 c g g' ρ=r:=by unfold p5;rw[e];exact k
theorem UX (e:c ρ=some x)(M:x=true->g ρ=r)(kf:x=false->g' ρ=r):p5 c g g' ρ=r:=by
 cases x with
 |true=>exact kx e (M rr)
 |false=>exact gL e (kf rr)
theorem aU (e:c ρ=some true)(k:g ρ=some (.rt d b)):bd (p5 c g g') h ρ=some (.rt d b):=HU (kx e k)
theorem aw (e:c ρ=some false)(k:h ρ=r):bd (p5 c g eN) h ρ=r:=bv (gL e rr) k
theorem ak (e:f ρ=some (d,b)):pf f ρ=some (.rt d b):=by simp[e]
theorem gD (e:ρ[i]? = some (some (d,b)))(hb:FJ d=false:=by rfl):oj i ρ=some (.rt d b):=by simp only[oj,e,hb];simp
theorem jy (e:f ρ=some (d,b))(n:aI d=true):cP i f ρ=some (.nx (ρ.set i (some (d,false)))):=by
 simp_all
theorem Cm (e:f ρ=some (.lst ds,true))(n:aQ ds=true):cP i f ρ=some (.nx (ρ.set i (some (.lst ds,true)))):=by
 simp_all
theorem iL (e:ρ[i]? = some (some (.lst ds,true)))(M:f ρ=some (d,b))(n:aI d=true)(l:ds.length<sizeLine):vh i f ρ=some (.nx (ρ.set i (some (.lst (ds++[d]),true)))):=by
 simp[e,M,n,l]
theorem Oo (e:ρ[i]? = some (some (.lst ds,true)))(M:f ρ=some (d,b))(n:aI d=true)(l:ds.length<sizeLine)(k:h (ρ.set i (some (.lst (ds++[d]),true)))=r):bd (vh i f) h ρ=r:=bv (iL e M n l) k
theorem mi (e:fi ρ=some ds)(k:cB tg g ds ρ=some (.nx ρ')):t0 fi tg g ρ=some (.nx ρ'):=by unfold t0;rw[e];exact k
theorem cG (e:fi (fN ρ)=some ds)(k:cB tg g ds ρ=some (.nx ρ')):vi fi tg g ρ=some (.nx ρ'):=by unfold vi;rw[e];exact k
theorem ij {f:FE}{j:Nat}(e:f ρ=some (.int j,b))(hj:j<=1000):kX f ρ=some (fQ 0 j):=by
 simp_all<;>lia
theorem bW (e:f ρ=some (.bl x,b)):bD f ρ=some x:=by unfold bD;rw[e]
theorem aE (e:fa ρ=some ds)(k:F ds=x):fA F fa ρ=x:=by simp_all
theorem io {f1 g1:D->D->OB}{fa M O:FE}{x y z:D}{b1 b2 b3 b4 p q:Bool}(U:fa ρ=some (x,b1))(a:M ρ=some (y,b2))(e:O ρ=some (z,b3))(j:f1 x y=some (.bl p,b4))(e2:p=true->g1 y z=some (.bl q,false)):jp f1 g1 fa M O ρ=some (.bl (p && q),false):=by
 unfold jp;rw[U,a,e];simp [vJ,j];cases p
 .rfl
 .exact e2 rr
theorem bS {f1 f2:FE}{p q b1:Bool}(M:f1 ρ=some (.bl p,b1))(e2:p=true->f2 ρ=some (.bl q,false)):FU f1 f2 ρ=some (.bl (p && q),false):=by
 unfold FU;rw[M];cases p
 .rfl
 .exact e2 rr
theorem tY {f1 f2:FE}{p q b1:Bool}(M:f1 ρ=some (.bl p,b1))(e2:p=false->f2 ρ=some (.bl q,false)):TV f1 f2 ρ=some (.bl (p || q),false):=by
 unfold TV;rw[M];cases p
 .exact e2 rr
 .rfl
theorem M8 {f1:FE}{p b1:Bool}(M:f1 ρ=some (.bl p,b1)):FV f1 ρ=some (.bl (!p),false):=by
 unfold FV;rw[M]
theorem a9 (M:f ρ=some (d,b))(e2:O ρ=some xs):ao f O ρ=some (d::xs):=by
 simp_all
theorem eW (M:fa ρ=some (x,b1))(e2:U ρ=some (y,b2))(O:op x y=z):f2 op fa U ρ=z:=by
 simp_all
theorem ce (M:O ρ=some p)(e2:p=true->c2 ρ=some q):ft O c2 ρ=some (p && q):=by
 unfold ft;rw[M];cases p
 .rfl
 .exact e2 rr
theorem bx (M:O ρ=some p)(e2:p=false->c2 ρ=some q):iD O c2 ρ=some (p || q):=by
 unfold iD;rw[M];cases p
 .exact e2 rr
 .rfl
theorem be (M:O ρ=some p):jm O ρ=some (!p):=by
 unfold jm;rw[M];rfl
end
theorem Fa (a c:Nat):decide ([a]<[c])=decide (a<c):=by
 simp_all[cons_lt_cons_iff]
@[simp] theorem Cn (a c:Nat):NS (.str ⟨#[a]⟩) (.str ⟨#[c]⟩)=some (.bl (decide (a<=c)),false):=by
 grind[NS,Fa]
theorem bA (h:n<=100000):n<sizeLine:=lt_of_le_of_lt h Z9
theorem bg (h:n<=100000):n<=sizeLine:=le_of_lt (bA h)
theorem dH {α:Type}(l:List α)(g:α->D)(p:α->Bool)(h:α->D)(e:fi ρ=some (l.map g))(hl:l.length<=100000)
  (k:∀x∈l,∃M,tg (g x) (cm nT cap ρ)=some M/\c M=some (p x)/\(p x=true->∃b,fe M=some (h x,b))):fw fi nT cap tg c fe ρ=some (.lst ((l.filter p).map h),true):=by
 have key:∀O:List α,(∀x∈O,x∈l)->fu tg c fe (cm nT cap ρ) (O.map g)=some ((O.filter p).map h):=by
  intro O;induction O with
  |nil=>simp
  |cons x O U=>
   grind[mX,Ag]
 unfold fw;rw[e,vJ,if_pos (bg (by simpa using hl)),key l λ_ h=>h,Option.map_some]
theorem f8 {α:Type}(l:List α)(g:α->D)(h:α->D)(e:fi ρ=some (l.map g))(hl:l.length<=100000)
  (k:∀x∈l,∃M,tg (g x) (cm nT cap ρ)=some M/\∃b,fe M=some (h x,b)):fw fi nT cap tg pP fe ρ=some (.lst (l.map h),true):=by
 have:=dH (c:=pP) l g _ h e hl λx hx=>by
  obtain⟨M,h1,h2⟩:=k x hx;exact⟨M,h1,rr,λ_=>h2⟩
 rw[List.filter_eq_self.mpr λ_ _=>rr]at this;exact this
@[simp] theorem HV {α:Type}(f:α->Bool)(l:List α):vx (l.map λx=>.bl (f x))=some (l.map f):=by
 induction l with
 |nil=>rfl
 |cons x l M=>simp[M]
theorem Aa (h0:0<=i)(h:i.toNat<z.cps.size)(hz:z.length<=100000):eG (.str z) (.int i)=some (.str ⟨#[z.cps.toList.getD i.toNat 0]⟩,false):=by
 simp_all[bg,w6]
theorem QS (h0:0<=i)(h:i.toNat<ds.length):eG (.lst ds) (.int i)=some (ds.getD i.toNat .non,false):=by
 simp_all[w6]
theorem F3 (h0:0<=i)(h:i.toNat<ds.length):eG (.tup ds) (.int i)=some (ds.getD i.toNat .non,false):=by
 simp_all[w6]
theorem Co {xs:LI}{i:Int}(h0:0<=i)(h:i.toNat<xs.length):eG (.lst (xs.map .int)) (.int i)=some (.int (xs.getD i.toNat 0),false):=by
 rw[QS h0 (by simpa using h)];simp[h]
theorem Ev (z:Str):xZ z=z.cps.toList.map λc=>.str ⟨#[c]⟩:=rfl
theorem mod_lt {x m:Int}(hm:0<m):0<=x % m/\x % m<m:=⟨Int.emod_nonneg _ N9,Int.emod_lt_of_pos _ hm⟩
theorem pB:pR [.lst ds]=some (.int ds.length,false):=rfl
theorem aP (x y:D)(M:fa ρ=some (x,false))(e2:U ρ=some (y,false))(O:op x y=z):f2 op fa U ρ=z:=eW M e2 O
theorem bZ (e:f ρ=some (.bl x,false)):bD f ρ=some x:=bW e
theorem aV (M:f ρ=some (d,false))(e2:O ρ=some xs):ao f O ρ=some (d::xs):=a9 M e2
theorem a0 (ds:LD)(e:fa ρ=some ds)(k:F ds=x):fA F fa ρ=x:=aE e k
theorem gA (d:D)(e:f ρ=some (d,false))(n:aI d=true)(k:h (ρ.set i (some (d,false)))=r):bd (cP i f) h ρ=r:=AJ e n k
@[simp] noncomputable abbrev rkE (aa:LD)(ae:Int)(t:Env):Env:=some (.tup aa,false)::some (.int ae,false)::t
@[simp] noncomputable abbrev eR (ns:LI)(zs:LS)(O:Int)(M:LS)(R:LD)(a b:OB)(t:Env):Env:=some (.lst (ns.map .int),false)::some (.lst (zs.map .str),false)::some (.int O,false)::a::some (.lst (M.map .str),true)::some (.lst R,true)::b::t
end DL
set_option backward.eqns.nonrecursive true
namespace Lw
open PySem PySem.Spec PyProof.Rows L2 DL
noncomputable def kL:D:=(.int 255)
noncomputable def qO:D:=(.int 9999)
noncomputable def jz:D:=(.int 9)
noncomputable def j0:D:=(.int 8)
noncomputable def kM:D:=(.int 20)
noncomputable def gM:D:=(.int 8)
noncomputable def j4:D:=(.int 60)
noncomputable def yI:D:=(.tup [(.str "paper"),(.str "like"),(.str "copy")])
noncomputable def bI:List (PySem.Str×D):=[(("root" : Str),(.tup [(.str "office"),(.str "matters"),(.str "further"),(.str "rule")])),(("named" : Str),(.tup [(.str "day"),(.str "office"),(.str "person")])),(("chosen" : Str),(.tup [(.str "day"),(.str "by"),(.str "office"),(.str "person"),(.str "since")])),(("heir" : Str),(.tup [(.str "day"),(.str "by"),(.str "office"),(.str "person")])),(("death" : Str),(.tup [(.str "day"),(.str "person")])),(("lost" : Str),(.tup [(.str "day"),(.str "person")])),(("found" : Str),(.tup [(.str "day"),(.str "person")])),(("leave" : Str),(.tup [(.str "day"),(.str "by"),(.str "person"),(.str "matters"),(.str "stretch"),(.str "further")])),(("paper" : Str),(.tup [(.str "day"),(.str "by"),(.str "matters"),(.str "stretch"),(.str "whom"),(.str "pieces")])),(("like" : Str),(.tup [(.str "day"),(.str "by"),(.str "matters"),(.str "stretch"),(.str "whom"),(.str "of"),(.str "changes")])),(("copy" : Str),(.tup [(.str "day"),(.str "by"),(.str "of")])),(("call" : Str),(.tup [(.str "day"),(.str "by"),(.str "of")]))]
noncomputable def ga:D:=(.tup [(.str "by"),(.str "person"),(.str "whom")])
noncomputable def Cp:D:=(.tup [(.str "open"),(.str "first"),(.str "last")])
noncomputable def gb:D:=(.tup [(.str "chosen"),(.str "heir"),(.str "leave"),(.str "paper"),(.str "like"),(.str "copy"),(.str "call")])
noncomputable def aN (i:Nat):Stmt:=PySem.Challenge.pw_sealchain_k47_registers_parted.main.body.getD i (.Pass ⟨0,0,0,0⟩)
noncomputable def Ew:Gq:=⟨[],[("ALL_MATTERS",kL),("LAST_DAY",qO),("MOST_FURTHER",jz),("MOST_LETTERS",j0),("MOST_PEOPLE",kM),("MOST_PIECES",gM),("MOST_ROWS",j4),("PAPERS",yI),("PERSON_PARTS",ga),("RULES",Cp),("SEALINGS",gb)],[("PARTS",bI)],["all","any","bool","dict","enumerate","int","isinstance","len","list","max","min","range","reversed","set","sorted","str","tuple","zip"],["in_order","has_seal","is_first_death","bases_by"]⟩
def QT:Wq:=⟨Ew,"is_whole",aN 6,["thing","least","most"],0,[0,100,0,80,100,0,81,0,0,1,0,2]⟩
def qP:=ax (au QT.r _ rr) 3 0
def QU:Wq:=⟨QT.gt qP,"is_day",aN 7,["thing"],1,[0,0,0,51]⟩
def yJ:=ax (au QU.r _ rr) 1 0
def QW:Wq:=⟨QU.gt yJ,"is_stretch",aN 8,["thing"],2,[100,0,82,1,101,0,0,0,0,0,0,2,0,0,0,0,0,3,0,0,0,0]⟩
def wF:=ax (au QW.r _ rr) 1 0
def QX:Wq:=⟨QW.gt wF,"is_matters",aN 12,["thing"],1,[0,2,0,50]⟩
def wG:=ax (au QX.r _ rr) 1 0
def QY:Wq:=⟨QX.gt wG,"is_name",aN 22,["thing"],0,[100,0,83,0,0,101,0,53,0,0,102,0,0,0,0,0,0]⟩
def nB:=ax (au QY.r _ rr) 1 0
def QZ:Wq:=⟨QY.gt nB,"is_rule",aN 24,["thing"],0,[0,100,0,83,4,0,59]⟩
def Ex:=ax (au QZ.r _ rr) 1 0
def Ra:Wq:=⟨QZ.gt Ex,"is_piece",aN 23,["thing"],1,[0,1,0]⟩
def qQ:=ax (au Ra.r _ rr) 1 0
def Rb:Wq:=⟨Ra.gt qQ,"is_pieces",aN 25,["thing"],2,[100,0,82,0,0,101,0,55,0,0,102,0,0,0,0,0]⟩
def j5:=ax (au Rb.r _ rr) 1 0
def Rc:Wq:=⟨Rb.gt j5,"is_change",aN 26,["thing"],2,[100,0,82,1,101,0,0,0,7,0,0,0,55,1,0,0]⟩
def j6:=ax (au Rc.r _ rr) 1 0
def Re:Wq:=⟨Rc.gt j6,"is_changes",aN 27,["thing","places"],3,[100,0,82,102,0,0,0,0,0,0,1,0,0,0,0,0,0,102,0,4,1,1,3,0,1]⟩
def ml:=ax (au Re.r _ rr) 1 1
def HW:Wq:=⟨Re.gt ml,"is_part",aN 28,["part","thing"],4,[5,0,5,0,0,8,1,5,0,5,0,5,0,0,5,1,5,0,0,2,1,5,1,5,0,0,6,1,5,0,0,7,1,5,0,0,9,1,52,5,0,0,4,1,5,0,0,9,1,0,56,5,0,0,2,1,0,0,1]⟩
def dz:=ax (au HW.r _ rr) 2 0
def HX:Wq:=⟨HW.gt dz,"is_deed",aN 29,["thing"],5,[100,0,82,5,101,0,100,0,0,83,0,30,0,0,1,101,0,1,101,2,0,0,0,0,102,0,4,2,0,0,0,0,0,1]⟩
def tZ:=ax (au HX.r _ rr) 1 0
def HY:Wq:=⟨HX.gt tZ,"word_of",aN 32,["row"],0,[0,0,0,0]⟩
def aS:=ax (au HY.r _ rr) 1 0
def HZ:Wq:=⟨HY.gt aS,"part_of",aN 33,["row","part"],1,[0,0,0,0,1,10,0,0,1]⟩
def ay:=ax (au HZ.r _ rr) 2 0
def Cr:Wq:=⟨HZ.gt ay,"day_of",aN 34,["row"],2,[5,1,0,0,0,0,0]⟩
def bj:=ax (au Cr.r _ rr) 1 0
def Ia:Wq:=⟨Cr.gt bj,"is_timely",aN 30,["row","day"],3,[0,1,0,0,2,1,0,5,2,0,3,1,0,1,0,0,0,1,0,0]⟩
def o6:=ax (au Ia.r _ rr) 1 1
def Ib:Wq:=⟨Ia.gt o6,"is_row",aN 31,["thing"],6,[100,0,82,1,101,0,0,0,14,0,0,4,0,0,0,0]⟩
def yK:=ax (au Ib.r _ rr) 1 0
def Ic:Wq:=⟨Ib.gt yK,"root_offices",aN 39,["rows"],2,[0,0,0,0,5,4,0,3,0]⟩
def j7:=ax (au Ic.r _ rr) 1 0
def Ie:Wq:=⟨Ic.gt j7,"is_second_root",aN 40,["ahead","row"],3,[0,5,5,1,4,4,1,0,0]⟩
def iq:=ax (au Ie.r _ rr) 2 0
def Ig:Wq:=⟨Ie.gt iq,"parts_in",aN 35,["row"],1,[0,150,2,6,0,0,0]⟩
def ln:=ax (au Ig.r _ rr) 1 0
def Ih:Wq:=⟨Ig.gt ln,"people_in",aN 36,["row","names"],2,[1,0,0,0,0,4,0,58,6,1,1,0,140,1]⟩
def j8:=ax (au Ih.r _ rr) 1 1
def Cs:Wq:=⟨Ih.gt j8,"count_people",aN 41,["rows","names","row"],3,[0,1,0,0,0,0,2,1,1,0,2,0,141,1]⟩
abbrev pj:=au (Cs.b [2] [1,1,0,2]) _ rr
def j9:=ax (au Cs.r _ rr) 1 2
def Ii:Wq:=⟨Cs.gt j9,"is_refused",aN 42,["book","place"],7,[7,1,56,5,0,0,1,0,0,3,0,1,0,0,1,8,0,0,1,1,54]⟩
def mm:=ax (au Ii.r _ rr) 2 0
def Ct:Wq:=⟨Ii.gt mm,"register_of",aN 43,["rows","book","place"],8,[103,0,84,82,0,1,104,0,0,1,101,1,2,0,1,2,2]⟩
abbrev qR:=au (Ct.b [4] [0,1,2]) _ rr
def ca:=ax (au Ct.r _ rr) 1 2
def Ij:Wq:=⟨Ct.gt ca,"is_known",aN 45,["book","known","number"],0,[0,0,3,2,101,0,0,0,0,0,2,1]⟩
def cM:=ax (au Ij.r _ rr) 3 0
def Ik:Wq:=⟨Ij.gt cM,"is_paper",aN 74,["book","known","number"],1,[0,0,0,1,2,4,12,0,0,2,57]⟩
def cy:=ax (au Ik.r _ rr) 3 0
def Il:Wq:=⟨Ik.gt cy,"changed",aN 94,["pieces","place","piece"],0,[0,2,2,0,1,2,0,1,1]⟩
def ua:=ax (au Il.r _ rr) 3 0
def yL:Wq:=⟨Il.gt ua,"put_together",aN 95,["book","path","pieces","number","place","piece"],2,[0,2,13,0,0,0,1,0,0,7,1,3,1,14,0,0,3,1,3,0,0,13,0,0,3,4,5,8,4,101,2,0,3,0,2,0,2,4,5,0,2]⟩
abbrev c8:=au (yL.b [2,2] [8,4,101,2,0,3,0,2,0,2,4,5]) _ rr
abbrev bY:=au (yL.b [2] [1,14,0,0,3,1,3,0,0,13,0,0,3,4,5,8,4,101,2,0,3,0,2,0,2,4,5]) _ rr
def gd:=ax (au yL.r _ rr) 2 4
def Cu:Wq:=⟨yL.gt gd,"words",aN 96,["book","known","number","path","at"],3,[0,3,0,4,2,1000,9,4,3,2,0,1,4,0,4,0,3,4,5,15,0,0,4,0,0,0,3,0,4,14,0,0,4,90,105,3,0,3,4]⟩
abbrev dJ:=au (Cu.b [4] [2,0,1,4,0,4,0,3,4,5,15,0,0,4,0,0,0,3,0,4,14,0,0,4]) _ rr
def jZ:=ax (au Cu.r _ rr) 3 2
def Cv:Wq:=⟨Cu.gt jZ,"lies_in",aN 9,["day","stretch"],0,[0,0,0,1,0,2,0,1,3,0,0,1]⟩
def kg:=ax (au Cv.r _ rr) 2 0
def Im:Wq:=⟨Cv.gt kg,"heard",aN 44,["book","known"],0,[0,1,1,3,0,0,0,1,2,0]⟩
def eK:=ax (au Im.r _ rr) 2 0
def Io:Wq:=⟨Im.gt eK,"rank",aN 46,["book","number"],3,[0,16,0,0,1,1]⟩
def gN:=ax (au Io.r _ rr) 2 0
def Ip:Wq:=⟨Io.gt gN,"in_order",aN 48,["book","known","dated"],7,[2,1,0,0,1,0,1,6,17,0,1,0,0,0,2,2,1,0,0,1,0]⟩
def eA:=ax (au Ip.r _ rr) 2 1
def Iq:Wq:=⟨Ip.gt eA,"by_office",aN 60,["claim"],0,[0,0,0,0,0,0,0]⟩
def o7:=ax (au Iq.r _ rr) 1 0
def Ir:Wq:=⟨Iq.gt o7,"roots",aN 49,["book","known","known_rows"],2,[2,1,0,0,3,0,1,0,1,0,0,106,0,0,2,5,21,0,20,0,0]⟩
def iM:=ax (au Ir.r _ rr) 2 1
def Iu:Wq:=⟨Ir.gt iM,"tells",aN 52,["row","words","person","day"],3,[0,4,22,0,1,5,21,0,2,0,20,0,3]⟩
def wH:=ax (au Iu.r _ rr) 4 0
def Iv:Wq:=⟨Iu.gt wH,"told_of",aN 53,["book","known","words","person","day"],4,[0,4,2,3,4,0,0,5,0,1,0,0,4,0,1,2,3,0]⟩
def nD:=ax (au Iv.r _ rr) 5 0
def Iw:Wq:=⟨Iv.gt nD,"lives",aN 54,["book","known","person","day"],5,[0,5,101,0,0,1,2,3]⟩
def Cw:=ax (au Iw.r _ rr) 4 0
def Ix:Wq:=⟨Iw.gt Cw,"has_seal",aN 55,["book","known","person","day","told"],7,[0,4,1,0,1,2,3,5,101,4,0,0,5,25,0,0,0,4,1,0,6,1,0]⟩
def qS:=ax (au Ix.r _ rr) 4 1
def Iy:Wq:=⟨Ix.gt qS,"is_sound",aN 56,["book","known","number","sealer","day"],8,[14,0,1,2,9,26,0,0,2,60,0,0,3,25,0,0,2,0,4,24,0,0,2,0,1,0,1,3,4,0,0,1,3,4]⟩
def lq:=ax (au Iy.r _ rr) 3 2
def Iz:Wq:=⟨Iy.gt lq,"is_alive",aN 58,["claim","day"],1,[0,10,1,0,0,0,0]⟩
def ge:=ax (au Iz.r _ rr) 2 0
def IA:Wq:=⟨Iz.gt ge,"by_since",aN 59,["claim"],0,[0,0,0,0,0]⟩
def iN:=ax (au IA.r _ rr) 1 0
def IB:Wq:=⟨IA.gt iN,"chief_of",aN 61,["alive","rule"],4,[5,1,0,0,0,0,0,0,0,1,0,0]⟩
def qT:=ax (au IB.r _ rr) 2 0
def IC:Wq:=⟨IB.gt qT,"holder_by",aN 62,["claimed","root","day","alive","people","person","oldest"],5,[3,2,2,1,0,0,5,0,0,29,2,2,0,1,0,0,4,140,0,0,3,0,0,5,101,4,0,8,101,4,5,29,1,0,4,0,5,0,3,29,1,0,6,1,1,5,0,3,5,0,0,1,0,1,0,5,0,6]⟩
def o8:=ax (au IC.r _ rr) 3 4
def Cy:Wq:=⟨IC.gt o8,"is_held_by",aN 63,["claimed","root","person","day"],6,[0,5,0,0,1,3,2]⟩
def dL:=ax (au Cy.r _ rr) 4 0
def ID:Wq:=⟨Cy.gt dL,"is_first_death",aN 64,["book","known","number","row","deaths"],7,[0,3,0,0,2,0,4,8,0,1,31,3,30,3,0,5,1,4,1,0,13,1,0,2]⟩
def ir:=ax (au ID.r _ rr) 3 2
def IE:Wq:=⟨ID.gt ir,"counts",aN 65,["book","known","so_far","number","row","root"],9,[0,4,0,0,3,5,33,4,0,0,0,1,3,9,33,4,0,0,5,1,11,0,1,32,4,2,5,0,5,33,4,0,0,6,0,1,3,1,2,5,32,4,31,4]⟩
def qU:=ax (au IE.r _ rr) 4 2
def IF:Wq:=⟨IE.gt qU,"new_claim",aN 66,["row","since","number"],2,[0,33,0,33,0,1,2]⟩
def jA:=ax (au IF.r _ rr) 3 0
def Cz:Wq:=⟨IF.gt jA,"ended",aN 67,["so_far","offices","person","day","left","claim"],2,[0,4,0,0,0,0,5,9,0,5,1,1,0,5,2,7,5,3,8,0,5,3,0,4,5,3,0,5,3,0,4,0,5,2,0,5,3,0,5,5]⟩
abbrev yM:=au (Cz.b [2] [9,0,5,1,1,0,5,2,7,5,3,8,0,5,3,0,4,5,3,0,5,3,0,4,0,5,2,0,5,3,0,5]) _ rr
def C0:=ax (au Cz.r _ rr) 4 2
def C1:Wq:=⟨Cz.gt C0,"inherited",aN 69,["book","known","so_far","heirs","number","person","day","told","office","heir"],6,[0,5,35,0,0,4,0,6,34,0,0,4,0,7,2,5,6,0,0,140,2,5,6,0,2,5,0,0,1,8,0,2,0,0,8,0,9,9,3,8,5,6,9,11,0,1,9,6,0,7,8,9,6,4,8]⟩
abbrev wI:=au (C1.b [6] [0,9,9,3,8,5,6,9,11,0,1,9,6,0,7,8,9,6,4]) _ rr
def o9:=ax (au C1.r _ rr) 5 5
def IG:Wq:=⟨C1.gt o9,"after_death",aN 70,["book","known","so_far","heirs","number","offices","left"],7,[5,0,0,2,0,0,0,6,1,2,5,36,0,0,4,35,0,0,4,0,1,6,0,0,1,2,3,4]⟩
def kO:=ax (au IG.r _ rr) 5 2
def C2:Wq:=⟨IG.gt kO,"claims",aN 71,["book","known","so_far","heirs","number","row"],10,[0,2,1,3,0,0,0,18,0,1,4,0,5,0,0,4,4,0,1,2,4,5,38,5,0,2,1,2,3,5,36,5,4,5,38,5,0,2,199,5,38,5,3,3,37,5,37,5,37,5,0,2,0,0,1,2,3,4,0,2,2,17]⟩
abbrev nE:=au (C2.b [4] [0,5,0,0,4,4,0,1,2,4,5,38,5,0,2,1,2,3,5,36,5,4,5,38,5,0,2,199,5,38,5,3,3,37,5,37,5,37,5,0,2,0,0,1,2,3,4]) _ rr
def yN:=ax (au C2.r _ rr) 2 4
def IH:Wq:=⟨C2.gt yN,"is_leave",aN 75,["book","known","number"],1,[0,27,0,1,2,5,39,0,0,2]⟩
def iO:=ax (au IH.r _ rr) 3 0
def II:Wq:=⟨IH.gt iO,"is_borne",aN 76,["book","known","number"],2,[0,0,0,1,2,27,0,1,2]⟩
def gg:=ax (au II.r _ rr) 3 0
def IJ:Wq:=⟨II.gt gg,"covers",aN 13,["matters","some"],0,[0,5,3,0,1,1]⟩
def jB:=ax (au IJ.r _ rr) 2 0
def IK:Wq:=⟨IJ.gt jB,"reach_bar",aN 80,["row","above"],2,[0,41,1,41,0,0,5,42,0,7,41,0,41,1,0,0]⟩
def oB:=ax (au IK.r _ rr) 2 0
def IL:Wq:=⟨IK.gt oB,"office_bar",aN 81,["claimed","row","root"],7,[11,0,2,42,1,41,1,0,0,0,1,2]⟩
def iP:=ax (au IL.r _ rr) 3 0
def IM:Wq:=⟨IL.gt iP,"office_bases",aN 84,["book","known","claimed","number","row","bearing"],8,[0,4,0,0,3,5,2,2,4,5,22,0,1,2,0,1,2,0,0,0,2,2,4,0,5,43,0,0,13,1,0,42,2]⟩
def jC:=ax (au IM.r _ rr) 4 2
def IN:Wq:=⟨IM.gt jC,"ends_within",aN 11,["stop","bound"],0,[2,1,0,0,6,0,0,0,1]⟩
def kP:=ax (au IN.r _ rr) 2 0
def C3:Wq:=⟨IN.gt kP,"is_within",aN 10,["one","other"],1,[0,0,0,1,0,0,0,0,0,0,1]⟩
def gE:=ax (au C3.r _ rr) 2 0
def IP:Wq:=⟨C3.gt gE,"is_ahead",aN 47,["book","one","other"],4,[0,10,28,0,1,28,0,2]⟩
def iQ:=ax (au IP.r _ rr) 3 0
def IQ:Wq:=⟨IP.gt iQ,"leave_bar",aN 82,["book","number","leave","row","stretch"],5,[0,3,0,0,1,0,4,47,0,0,2,0,0,2,1,0,31,46,3,4,1,47,3,4,0,0,5,3,0,0,2]⟩
def oC:=ax (au IQ.r _ rr) 3 2
def IS:Wq:=⟨IQ.gt oC,"leaves_to",aN 83,["book","known","person","leaves"],2,[3,2,0,1,0,31,0,1,9,1,2,0,0,0,2,2,0,0,3,5,48,0,2,0,1,0]⟩
def oD:=ax (au IS.r _ rr) 3 1
def IT:Wq:=⟨IS.gt oD,"leave_bases",aN 85,["book","known","number","leaves"],6,[0,3,0,0,1,49,0,0,2,0,2,0,2,0,3,2,1,1,2,0,0]⟩
def kQ:=ax (au IT.r _ rr) 3 1
def IU:Wq:=⟨IT.gt kQ,"copy_bases",aN 86,["book","known","number","of"],5,[0,3,50,0,0,2,38,0,1,3,3,0,3,2,0,3,0]⟩
def mn:=ax (au IU.r _ rr) 3 1
def IV:Wq:=⟨IU.gt mn,"bases_by",aN 87,["book","known","claimed","number","found"],9,[11,0,1,3,0,5,52,0,0,3,0,0,0,1,3,0,4,1,7,0,1,2,3,1,0,1,3,0,3,4,0,0,0,0]⟩
def eB:=ax (au IV.r _ rr) 4 1
def IW:Wq:=⟨IV.gt eB,"may_call",aN 77,["book","known","claimed","call","number","row","caller","over"],7,[0,5,0,0,4,0,6,52,0,0,3,5,6,52,5,0,5,53,5,0,7,1,5,5,31,0,1,11,52,0,52,1,0,0,107,4,2,6,0,3,0,7,21,1,0,2,51,0,3,4]⟩
def qV:=ax (au IW.r _ rr) 5 3
def IX:Wq:=⟨IW.gt qV,"calls_in",aN 78,["book","known","claimed","call","number","day","row"],9,[0,6,0,0,3,1,54,6,1,53,6,4,8,52,6,5,0,0,27,0,1,3,0,0,1,2,3,4]⟩
def lr:=ax (au IX.r _ rr) 6 1
def IY:Wq:=⟨IX.gt lr,"calls_by",aN 79,["book","known","claimed","number","day"],10,[14,0,1,3,0,0,5,0,1,2,3,4,0,37,0,1,0,1,2,3,0,4,5,0]⟩
def qW:=ax (au IY.r _ rr) 5 0
def IZ:Wq:=⟨IY.gt qW,"is_fit",aN 88,["book","known","claimed","number","day"],11,[29,0,1,3,8,54,0,0,3,4,0,0,5,101,0,0,1,2,3,4]⟩
def qX:=ax (au IZ.r _ rr) 5 0
def C4:Wq:=⟨IZ.gt qX,"links",aN 89,["book","known","day","claimed","found","number"],12,[1,3,18,0,1,0,4,0,0,0,37,0,1,5,16,0,1,5,0,0,1,3,5,2,2,4,5,4,0,1,3,5,5]⟩
abbrev Ja:=au (C4.b [4] [16,0,1,5,0,0,1,3,5,2,2,4,5,4,0,1,3,5]) _ rr
def C5:=ax (au C4.r _ rr) 3 3
def Jb:Wq:=⟨C4.gt C5,"bears",aN 90,["base","among"],0,[0,5,0,0,20,0,0,1]⟩
def wJ:=ax (au Jb.r _ rr) 2 0
def C6:Wq:=⟨Jb.gt wJ,"stood",aN 91,["found","stands","number","resting"],1,[0,1,0,0,6,0,2,3,107,1,1,0,3,0,0,1,1,1,2,2]⟩
abbrev Jc:=au (C6.b [2] [107,1,1,0,3,0,0,1,1,1,2]) _ rr
def C7:=ax (au C6.r _ rr) 1 3
def Jd:Wq:=⟨C6.gt C7,"standing",aN 92,["book","known","day"],13,[0,108,0,2,0,1,2]⟩
def iR:=ax (au Jd.r _ rr) 3 0
def yO:Wq:=⟨Jd.gt iR,"paper_behind",aN 97,["book","number","row"],2,[0,2,0,0,1,1000,5,61,2,0,2,0,0,60,2,3]⟩
abbrev iZ:=au (yO.b [2] [0,2,0,0,60,2]) _ rr
def dM:=ax (au yO.r _ rr) 2 1
def Je:Wq:=⟨yO.gt dM,"holding",aN 98,["book","known","day","stands"],14,[3,2,0,1,0,1,0,1,2,49,1,2,0,0,0,2,2,0,0,3,45,1,61,0,2,0,0]⟩
def nF:=ax (au Je.r _ rr) 3 1
def Jf:Wq:=⟨Je.gt nF,"whom_of",aN 99,["book","number"],3,[0,62,1,0,1]⟩
def ub:=ax (au Jf.r _ rr) 2 0
def Jg:Wq:=⟨Jf.gt ub,"judged",aN 100,["book","known","day"],15,[0,2,0,1,0,1,0,1,2,0,0,1,0,48,1,2,0]⟩
def gh:=ax (au Jg.r _ rr) 3 0
def C8:Wq:=⟨Jg.gt gh,"days_in",aN 102,["row","days","part","value"],2,[0,1,0,0,0,0,0,58,0,2,3,5,2,5,2,0,1,3,5,2,1,1,0,0,3,6,0,0,2]⟩
abbrev iS:=au (C8.b [2] [5,2,5,2,0,1,3,5,2,1,1,0,0,3,6,0,0]) _ rr
def uc:=ax (au C8.r _ rr) 1 3
def C9:Wq:=⟨C8.gt uc,"moments",aN 103,["book","days","row"],3,[0,1,0,0,0,0,2,1,1,0,2,0,142,1]⟩
abbrev qY:=au (C9.b [2] [1,1,0,2]) _ rr
def eC:=ax (au C9.r _ rr) 1 2
def yP:Wq:=⟨C9.gt eC,"parted",aN 104,["one","other","days","known","day"],16,[0,2,142,1,0,0,0,1,0,0,0,142,0,0,2,0,1,0,0,3,1,2,0,0,2,4,1,2,0,3,4,2,1,3,4,0,3,4,0]⟩
abbrev ud:=au (yP.b [2,0] [1,2,0,3,4,2,1,3,4,0,3,4]) _ rr
abbrev nG:=au (yP.b [2] [1,2,0,0,2,4,1,2,0,3,4,2,1,3,4,0,3,4]) _ rr
def dN:=ax (au yP.r _ rr) 2 3
def Jh:Wq:=⟨yP.gt dN,"_law_cell",aN 106,["_law_script","_law_k","_law_number"],0,[3,1,101,0,0,0,0,1,0,2,1,4,1,8,101,0,0,2,1,1,4,0,0,5,4,1,101,0,4,4,1,1,0,5,6,2,2]⟩
def eY:=ax (au Jh.r _ rr) 2 1
def CA:Wq:=⟨Jh.gt eY,"_law_names",aN 107,["_law_cell_here","_law_letters","_law_base","_law_at","_law_names_here","_law_k","_law_name"],0,[0,1,2,2,1,0,2,1,5,0,0,1,5,7,2,1,4,0,0,3,5,7,0,101,2,0,4,0,1,5,0,6,109,2,0,6,3,0,1,5,1,7,0,4,5,0,4,2,6,5]⟩
abbrev AK:=au (CA.b [8] [0,6,109,2,0,6,3,0,1,5,1,7,0,4,5,0,4,2,6]) _ rr
def nH:=ax (au CA.r _ rr) 1 6
def Ji:Wq:=⟨CA.gt nH,"_law_deed",aN 108,["_law_rows_here","_law_cell_here","_law_names_here","_law_word","_law_day","_law_by","_law_stretch","_law_matters"],0,[0,3,0,5,1,0,4,1,7,101,0,5,7,1,0,5,0,2,0,5,7,1,0,6,0,4,1,4,5,7,1,0,7,0,5,7,1,5,3,0,4,5,0,2,1,5,7,1,7,6,5,7,1,5,3,0,4,5,7,6,0,5,5,7,1,8,0,2,1,5,7,1,5,3,0,4,5,7,6,5,7,1,5,7,1,0,2,4,3,0,3,4,5,5,7,1,0,3,1,4,0,2,5,7,1]⟩
def yQ:=ax (au Ji.r _ rr) 3 5
def CB:Wq:=⟨Ji.gt yQ,"_law_rows",aN 109,["_law_script","_law_names_here","_law_rows_here","_law_k","_law_cell_here","_law_deed_here"],1,[0,2,0,1,0,5,2,0,0,2,5,7,2,0,0,1,0,1,0,1,1,5,2,0,3,0,4,5,2,0,1,3,9,0,5,0,2,4,1,0,2,1,0,5,0,5,7,4,9,5,3]⟩
abbrev ue:=au (CB.b [4] [0,4,5,2,0,1,3,9,0,5,0,2,4,1,0,2,1,0,5,0,5,7,4,9,5]) _ rr
def qZ:=ax (au CB.r _ rr) 2 4
def jD:Wq:=⟨CB.gt qZ,"_law_changed",aN 110,["_law_rows_here","_law_cell_here","_law_names_here","_law_found","_law_at","_law_noted","_law_deed_here","_law_held"],0,[0,3,109,0,0,4,1,5,7,1,0,101,0,5,6,0,0,4,5,5,1,4,0,6,0,3,4,5,2,2,6,0,0,2,5,7,1,5,7,1,6,5,5,1,3,5,5,1,0,3,4,1,1,5,5,7,1,6,5,5,1,9,0,6,0,3,4,5,2,2,6,0,2,5,7,1,6,5,5,1,4,0,6,0,3,4,5,2,2,6,5,7,1,0,1,5,7,1,5,7,1,6,5,5,1,5,0,6,0,3,4,5,2,6,0,2,5,7,1,5,5,1,0,7,0,3,0,3,0,3,4,0,3,4,7,5,5,1,0,3,5,7,1,0,2,5,7,1,0,3]⟩
noncomputable abbrev Zs:FS:=au (jD.b [1003] [5,5,1,4,0,6,0,3,4,5,2,2,6,0,0,2,5,7,1,5,7,1,6]) _ rr
noncomputable abbrev Zt:FS:=au (jD.b [1004] [5,5,1,3]) _ rr
noncomputable abbrev Zu:FS:=au (jD.b [1005] [5,5,1,0,3,4,1,1,5,5,7,1,6]) _ rr
noncomputable abbrev Zv:FS:=au (jD.b [1006] [5,5,1,9,0,6,0,3,4,5,2,2,6,0,2,5,7,1,6]) _ rr
noncomputable abbrev Zw:FS:=au (jD.b [1007] [5,5,1,4,0,6,0,3,4,5,2,2,6,5,7,1,0,1,5,7,1,5,7,1,6]) _ rr
noncomputable abbrev Zx:FS:=au (jD.b [1008] [5,5,1,5,0,6,0,3,4,5,2,6,0,2,5,7,1]) _ rr
noncomputable abbrev Zy:FS:=au (jD.b [1009] [5,5,1,0,7,0,3,0,3,0,3,4,0,3,4,7]) _ rr
noncomputable abbrev Zz:FS:=au (jD.b [1010] [5,5,1,0,3,5,7,1,0,2,5,7,1]) _ rr
def jE:=ax (au jD.r _ rr) 3 5
def CC:Wq:=⟨jD.gt jE,"_law_days",aN 111,["_law_rows_here","_law_found","_law_noted","_law_deed_here"],0,[0,1,0,0,0,0,2,3,0,1,2,1,0,3,0,1,0,3,5,0,3,0,1,1,1,0,0,0,3,6,0,0,4,0,3,0,1,1,1,0,0,0,3,6,0,0,2]⟩
abbrev nI:=au (CC.b [2] [0,1,2,1,0,3,0,1,0,3,5,0,3,0,1,1,1,0,0,0,3,6,0,0,4,0,3,0,1,1,1,0,0,0,3,6,0,0]) _ rr
def iu:=ax (au CC.r _ rr) 1 3
def yR:Wq:=⟨CC.gt iu,"_law_due",aN 112,["_law_one","_law_other","_law_knowns","_law_days_here","_law_known","_law_day"],16,[0,0,0,2,4,0,0,0,3,5,1,9,0,4,5,9,1,4,5,0,4,5,0]⟩
abbrev Jj:=au (yR.b [0,0] [1,9,0,4,5,9,1,4,5,0,4,5]) _ rr
abbrev Jk:=au (yR.b [0] [0,0,0,3,5,1,9,0,4,5,9,1,4,5,0,4,5]) _ rr
def pC:=ax (au yR.r _ rr) 4 2
def CD:Wq:=⟨yR.gt pC,"_law_whole",aN 113,["_law_found"],0,[0,100,0,80,100,0,81]⟩
def nJ:=ax (au CD.r _ rr) 1 0
def CF:Wq:=⟨CD.gt nJ,"law",aN 114,["_law_script","_law_names_here","_law_rows_here","_law_changed_here","_law_one","_law_other","_law_knowns","_law_due_here","_law_found","_law_none","_law_k","_law_cell_here"],17,[0,1,6,7,0,0,2,4,0,1,0,3,3,2,7,0,1,0,4,65,2,0,5,65,3,0,6,142,0,0,1,2,3,0,0,0,7,1,4,5,6,142,1,2,2,2,3,0,8,8,4,5,1,8,7,1,8,5,4,7,0,0,9,65,6,8,9,9,5,5,7,0,6,8,4,4,0,6,7,0,100,8,82,0,0,8,0,0,8,0,1,10,0,11,7,0,1,10,1,11,4,5,11,5,7,11,11,5,5,11,5,7,11,0,0,5,11,4,11,5]⟩
abbrev Rf:=au (CF.b [24] [0,11,7,0,1,10,1,11,4,5,11,5,7,11,11,5,5,11,5,7,11,0]) _ rr
def F_law:=ax (au CF.r _ rr) 1 11
end Lw
namespace DL
open PySem L2
theorem gk:∀(n m:Nat)(d:D),n<=m->aH n d=true->aH m d=true
 |n,m,.non,_,_=>by simp
 |n,m,.bl _,_,_=>by simp
 |n,m,.int _,_,_=>by simp
 |n,m,.str _,_,_=>by simp
 |n,m,.ty _,_,h=>by cases n<;>simp at h
 |n,m,.dk _ _,_,h=>by simp at h
 |n,m,.dt _ _,_,h=>by simp at h
 |0,m,.tup _,_,h=>by simp at h
 |0,m,.lst _,_,h=>by simp at h
 |n+1,0,_,h,_=>by lia
 |n+1,m+1,.tup ds,hl,h=>by
  simp [aH,all_eq_true]at h |-;exact λd hd=>gk n m d N9 (h d hd)
 |n+1,m+1,.lst ds,hl,h=>by
  simp [aH,all_eq_true]at h |-;exact λd hd=>gk n m d N9 (h d hd)
theorem nL:∀(ds:LD),(∀d∈ds,cJ d d=true)->gS ds ds=true
 |[],_=>by simp [gS]
 |d::ds,h=>by
  simp [gS,h d mX];exact nL ds λe he=>h e (mZ _ he)
theorem mo:∀(n:Nat)(d:D),aH n d=true->cJ d d=true
 |n,.non,_=>by simp
 |n,.bl _,_=>by simp
 |n,.int _,_=>by simp
 |n,.str _,_=>by simp
 |n,.ty _,h=>by cases n<;>simp at h
 |n,.dk _ _,h=>by simp at h
 |n,.dt _ _,h=>by simp at h
 |0,.tup _,h=>by simp at h
 |0,.lst _,h=>by simp at h
 |n+1,.tup ds,h=>by
  simp [aH,all_eq_true]at h;exact nL ds λd hd=>mo n d (h d hd)
 |n+1,.lst ds,h=>by
  simp [aH,all_eq_true]at h;exact nL ds λd hd=>mo n d (h d hd)
end DL
namespace DL
@[simp] noncomputable abbrev sF (d:D):OB:=some (d,false)
@[simp] noncomputable abbrev lT (ds:LD):OB:=some (.lst ds,true)
@[simp] noncomputable abbrev sI (x:Int):OB:=some (.int x,false)
@[simp] noncomputable abbrev sS (x:PySem.Str):OB:=some (.str x,false)
@[simp] noncomputable abbrev sT (x:LD):OB:=some (.tup x,false)
@[simp] noncomputable abbrev sL (x:LD):OB:=some (.lst x,false)
@[simp] noncomputable abbrev sO (x:Bool):OB:=some (.bl x,false)
theorem bX {r:OB}{d:D}{b:Bool}(h:Wo r d b=true:=by decide +kernel):r=some (d,b):=w9 h
theorem gP {p q:Prop}[Decidable p](h:p)(n:decide p=false:=by decide +kernel):q:=absurd h (of_decide_eq_false n)
end DL
namespace Lw
open PySem DL L2
theorem ra (d:D)(r:LD):l5 (d::r) 0=some d:=by have:=gK (xs:=d::r) (j:=0) V9;simpa using this
theorem at1 (d e:D)(r:LD):l5 (d::e::r) 1=some e:=by have:=gK (xs:=d::e::r) (j:=1) V9;simpa using this
theorem at2 (d e f:D)(r:LD):l5 (d::e::f::r) 2=some f:=by have:=gK (xs:=d::e::f::r) (j:=2) V9;simpa using this
noncomputable def cf (k:Str):Bool:=decide (k = "death") || decide (k = "lost") || decide (k = "found")
noncomputable def cN (k:Str):Bool:=decide (k = "chosen") || decide (k = "heir") || decide (k = "leave") || decide (k = "paper") || decide (k = "like") || decide (k = "copy") || decide (k = "call")
structure DeedP (kind:Str)(ag:List D):Prop where
 flat:aQ ag=true
 plain:ag.all (aH 5)=true
 three:cf kind=true->∃(day:Int)(p:Str),ag=[.int day,.str p]
 slg:cN kind=true->∃(day:Int)(p:Str)(r:List D),ag=.int day::.str p::r
noncomputable def row (h:Int)(kind:Str)(ag:LD):D:=.tup [.int h,.tup (.str kind::ag)]
def nM (r:D):Prop:=∃h kind ag,r=row h kind ag/\DeedP kind ag
theorem nM.flat (h:nM r):aI r=true:=by obtain⟨a,k,ag,rfl,dp⟩:=h;simp[row,dp.flat]
theorem bL (h:∀d∈ds,aI d=true):aQ ds=true:=by
 induction ds with
 |nil=>rfl
 |cons d r M=>simp_all
theorem bo (zs:LS):aQ (zs.map D.str)=true:=by
 induction zs with
 |nil=>rfl
 |cons a l M=>simp[M]
noncomputable def a5:D->Int
 |.tup (.int h::_)=>h
 |_=>0
noncomputable def kindOf:D->Str
 |.tup [_,.tup (.str k::_)]=>k
 |_=>("" : Str)
noncomputable def aO:D->Int
 |.tup [_,.tup (_::.int d::_)]=>d
 |_=>0
noncomputable def CG (p:Str)(day:Int):LD->Bool
 |[.int d,.str q]=>decide (q=p) && decide (d<=day)
 |_=>false
def told (M:LS)(p:Str)(day:Int):D->Bool
 |.tup [_,.tup (.str kind::ag)]=>decide (kind∈M) && CG p day ag
 |_=>false
theorem bG (h:Int)(kind:Str)(ag:LD):aS [row h kind ag]=sS kind:=ah rr (ak (by simp[row,at1,ra]))
theorem jF (h:cf k=true):k = "death" \/ k = "lost" \/ k = "found":=by
 unfold cf at h;lia
theorem lu (h:cN k=true):k = "chosen" \/ k = "heir" \/ k = "leave" \/ k = "paper" \/ k = "like" \/ k = "copy" \/ k = "call":=by
 unfold cN at h;lia
theorem M9 (h:cf k=true\/cN k=true):lh bI (.str k) (.str "day")=sI 0:=by
 rcases h with h|h
 .rcases jF h with rfl|rfl|rfl<;>exact bX
 .rcases lu h with rfl|rfl|rfl|rfl|rfl|rfl|rfl<;>exact bX
theorem AL (h:cf k=true):lh bI (.str k) (.str "person")=sI 1:=by
 rcases jF h with rfl|rfl|rfl<;>exact bX
theorem Jl (h:cf k=true\/cN k=true):je (.str k) (.str "root")=sO false:=by
 rcases h with h|h
 .rcases jF h with rfl|rfl|rfl<;>exact bX
 .rcases lu h with rfl|rfl|rfl|rfl|rfl|rfl|rfl<;>exact bX
theorem bf {h:Int}{k:Str}{ag:LD}{part:Str}{i:Nat}{d:D}(hi:lh bI (.str k) (.str part)=sI i)(hd:ag[i]? = some d):ay [row h k ag,.str part]=some (d,false):=by
 refine ah rr (ak ?_);refine aP (.tup (.str k::ag)) (.int (1+i)) (by simp[row,at1]) (aP _ _ rr (aP _ _ (a0 _ rr (bG _ _ _)) rr hi) V9) ?_;have M:=(vV hd).1;have:l5 (.str k::ag) (1+(i:Int))=some d:=by
  have:=gK (xs:=(.str k:D)::ag) (j:=i+1) Y9;grind
 simp[this]
theorem rb {h:Int}{k:Str}{ag:LD}{d:Int}{r:LD}(hk:cf k=true\/cN k=true)(hr:ag=.int d::r):bj [row h k ag]=sI d:=by
 subst hr;refine ah rr (aw (bZ (aP _ _ (a0 _ rr (bG _ _ _)) rr (Jl hk))) (ak (a0 _ rr (bf (M9 hk) rr))))
theorem mq (k:Str)(M:LS):KE (.str k) (M.map .str)=decide (k∈M):=by
 induction M with
 |nil=>simp[KE]
 |cons w M O=>
  grind[KE,xN]
theorem kh (M:LS):(M.map D.str).all gT=true:=by
 simp
theorem dO (k:Str)(M:LS):LJ (.str k) (.tup (M.map .str))=sO (decide (k∈M)):=by
 simp only[LJ,fz,vJ,mq];rw[if_pos ⟨rr,kh M⟩]
theorem Jm (hr:nM r)(M:LS)(hw:∀w∈M,cf w=true)(p:Str)(day:Int):wH [r,.tup (M.map .str),.str p,.int day]=sO (told M p day r):=by
 obtain⟨h,kind,ag,rfl,dp⟩:=hr;have O:f2 _ (fA _ (fV 0 av)) (am 1) [some (row h kind ag,false),sF _,sS p,sI day]=sF _:=
  aP _ _ (a0 _ rr (bG _ _ _)) rr (dO _ M)
 have U:told M p day (row h kind _)=(decide _ && CG p _ ag):=rr;refine ah rr (ak (bS O λhk=>?_));have h3:=hw _ (ET hk);obtain⟨d,q,rfl⟩:=dp.three h3;refine bS (b1:=false) ?_ λ_=>?_
 .exact aP _ _ (a0 _ rr (bf (AL h3) rr)) rr V9
 .exact aP _ _ (a0 _ rr (rb (.inl h3) rr)) rr V9
theorem Jn (ds:LD):tE ds=ds.zipIdx.map λx=>.tup [.int x.2,x.1]:=by
 unfold tE;apply ext_getElem?;intro i;simp;cases ds[i]?<;>simp
noncomputable def aj (aa:LD)(ae:Int):List (D×Nat):=aa.zipIdx.filter λx=>decide (a5 x.1<=ae)
theorem jG (aa:LD)(hr:∀r∈aa,nM r)(hl:aa.length<=1000)(ae:Int):eK [.tup aa,.int ae]=lT ((aj aa ae).map λx=>.int x.2):=by
 have hc:=dH (fi:=G2 (am 0)) (nT:=2) (cap:=[1]) (tg:=DM [0,1]) (c:=bD (f2 NS (jw 1 0) (am 2))) (fe:=am 0) (ρ:=[sT aa,sI ae]) aa.zipIdx (λx=>.tup [.int x.2,x.1]) (λx=>decide (a5 x.1<=ae)) (λx=>.int x.2)
  (by simp[Jn]) Y9 λx hx=>by
   obtain⟨h,kind,ag,e,_⟩:=hr _ (List.fst_mem_of_mem_zipIdx hx);refine⟨_,rr,bZ ?_,λ_=>⟨false,by simp[cm]⟩⟩;simp[cm,e,row,ra,a5]
 exact ah rr (ak hc)
def pq (aa:LD)(ae:Int)(M:LS)(p:Str)(day:Int):List (D×Nat):=(aj aa ae).filter λx=>told M p day x.1
theorem CH (h:x∈pq aa ae M p day):aa[x.2]? = some x.1/\told M p day x.1=true:=by
 obtain⟨h1,h2⟩:=vN h;exact⟨(List.mk_mem_zipIdx_iff_getElem? ).mp (vN h1).1,h2⟩
theorem aY {aa:LD}{i:Nat}{r:D}(h:aa[i]? = some r):l5 aa (i:Int)=some r:=by
 obtain⟨M,e⟩:=vV h;rw[gK M,e]
theorem MA (aa:LD)(ae:Int)(M:LS)(p:Str)(day:Int):(pq aa ae M p day).length<=aa.length:=by
 have h1:=vM (λx=>told M p day x.1) (aj aa ae);have h2:=vM (λx=>decide (a5 x.1<=ae)) aa.zipIdx;rw[length_zipIdx]at h2;exact vR h1 h2
theorem wK (aa:LD)(hr:∀r∈aa,nM r)(hl:aa.length<=1000)(ae:Int)(M:LS)(hw:∀w∈M,cf w=true)(p:Str)(day:Int):
  nD [.tup aa,.int ae,.tup (M.map .str),.str p,.int day]=lT ((pq aa ae M p day).map λx=>.int x.2):=by
 have hc:=dH (fi:=cb _) (nT:=1) (cap:=[2,3,4,0]) (tg:=dS 0) (c:=bD (fA wH (ao (f2 eG (am 4) (am 0)) (fV 1 (fV 2 (fV 3 av)))))) (fe:=am 0)
  (ρ:=[sT aa,sF _,sT (M.map .str),sS p,sI day]) (aj aa ae) _ _ (λx=>.int x.2)
  (by
   show(fA eK (fV 0 (fV 1 av)) _).bind _=_;rw[a0 _ rr (jG aa hr hl ae)];rfl) (by have:=vM (λx:D×Nat=>decide (a5 x.1<=ae)) aa.zipIdx;rw[length_zipIdx]at this;exact vR this N9) λx hx=>by
   have O:=(List.mk_mem_zipIdx_iff_getElem? (x:=x.1) (i:=x.2)).mp (vN hx).1;refine⟨_,rr,bZ (a0 _ ?_ (Jm (hr _ (vL O)) M hw p day)),λ_=>⟨false,by simp[cm]⟩⟩;have ha:=aY O;simp[cm,ha]
 exact ah rr (ak hc)
def kA (x:D×Nat):List At:=[.i (aO x.1),.i x.2]
def kR (a b:D×Nat):Bool:=decide (aO a.1<aO b.1\/(aO a.1=aO b.1/\(a.2:Int)<b.2))
def gm:D×Nat->List (D×Nat)->D×Nat
 |b,[]=>b
 |b,x::r=>if kR b x=true then gm x r else gm b r
def Op:List (D×Nat)->Option (D×Nat)
 |[]=>none
 |x::r=>some (gm x r)
theorem Rh (a b c d:Int):aR [.i a,.i b] [.i c,.i d]=some (decide (a<c\/(a=c/\b<d))):=by
 rw[aR];by_cases h:a=c
 .simp_all[aR]
 simp_all
theorem Jo (a b:D×Nat):aR (kA a) (kA b)=some (kR a b):=Rh _ _ _ _
theorem wL (l:List (D×Nat)):cr (l.map kA)=true:=by
 simp_all[cr,Jo]
theorem nN:∀(r:List (D×Nat))(b:D×Nat),oy (kA b,.int b.2) (r.map λx=>(kA x,D.int x.2))=.int (gm b r).2
 |[],b=>rr
 |x::r,b=>by
  rw[uX,oy,gm];rw[Jo];by_cases h:kR b x=true
  .rw[if_pos h,if_pos (by rw[h])];exact nN r x
  .rw[if_neg h,if_neg (by simpa using h)];exact nN r b
theorem rd:∀(r:List (D×Nat))(b:D×Nat),gm b r∈b::r
 |[],b=>by simp[gm]
 |x::r,b=>by
  rw[gm];split
  .exact mZ _ (rd r x)
  .rcases vP (rd r b)with h|h
   .rw[h];exact mX
   simp_all
theorem gn {α:Type}{f:D->Option D}{g h:α->D}:∀(l:List α),(∀x∈l,f (g x)=some (h x))->ju f (l.map g)=some (l.map h)
 |[],_=>rr
 |x::l,hx=>by
  rw[uX,ju,hx x mX,gn l λy hy=>hx y (mZ _ hy)];rfl
theorem fG {α:Type}{g:α->D}{h:α->List At}:∀(l:List α),(∀x∈l,nn (g x)=some (h x))->da (l.map g)=some (l.map h)
 |[],_=>rr
 |x::l,hx=>by
  rw[uX,da,hx x mX,fG l λy hy=>hx y (mZ _ hy)];rfl
noncomputable def oE:LS:=[("lost" : Str),"found"]
theorem oF:∀w∈oE,cf w=true:=by
 intro w hw;rcases vP hw with rfl|hw
 .decide +kernel
 .rcases vP hw with rfl|hw
  .decide +kernel
  simp_all
def CJ (aa:LD)(ae:Int)(p:Str)(day:Int):Bool:=match Op (pq aa ae oE p day) with
 |none=>true
 |some b=>decide (kindOf b.1 = "found")
theorem re (hw:∀w∈U,cf w=true)(hr:nM r)(O:told U p day r=true):∃h k d,r=row h k [.int d,.str p]/\cf k=true/\k∈U/\d<=day:=by
 obtain⟨h,kind,ag,rfl,dp⟩:=hr;have M:(decide _ && CG p _ _)=true:=O;rw[vB]at M;have hm:=ET M.1;obtain⟨d,q,rfl⟩:=dp.three (hw _ hm);have hq:(decide _ && decide _)=true:=M.2;rw[vB]at hq;have:=ET hq.1;subst this;exact⟨h,kind,d,rr,hw _ hm,hm,ET hq.2⟩
theorem CK {aa:LD}{i:Nat}{h d:Int}{k p:Str}(M:aa[i]? = some (row h k [.int d,.str p]))(h3:cf k=true):gN [.tup aa,.int i]=sT [.int d,.int i]:=by
 have ha:=aY M;refine ah rr (ak (a0 _ (a9 (a0 [row h k [.int d,.str p]] (by simp[ha]) (rb (.inl h3) rr)) rr) T9))
theorem MB (aa:LD)(hr:∀r∈aa,nM r)(hl:aa.length<=1000)(ae:Int)(p:Str)(day:Int):qS [.tup aa,.int ae,.str p,.int day]=sO (CJ aa ae p day):=by
 have a:=wK aa hr hl ae oE oF p day;have f:=MA aa ae oE p day;have key:∀x∈pq aa ae oE p day,∃h k d,aa[x.2]? = some (row h k [.int d,.str p])/\x.1=row h k [.int d,.str p]/\cf k=true:=λx hx=>by
  obtain⟨O,g⟩:=CH hx;obtain⟨h,k,d,e,h3,_⟩:=re oF (hr _ (vL O)) g;exact⟨h,k,d,by rw[O,e],e,h3⟩
 unfold CJ;generalize c:pq aa ae oE p day=sel at a key f |-;have M:fA nD (fV 0 (fV 1 (ao (fA cn (ao (fS "lost") (ao (fS "found") av))) (fV 2 (fV 3 av))))) [sT aa,sI ae,sS p,sI day,none]=lT (sel.map λx=>.int x.2):=
  a0 _ (by simp[oE,sizeLine]) a
 have U:aQ (sel.map λx=>D.int x.2)=true:=bL λd hd=>by obtain⟨x,_,rfl⟩:=vO hd;rfl
 cases sel with
 |nil=>exact ah rr (b9 M U (aU (bZ V9) (ak rr)))
 |cons x r=>
  refine ah rr (b9 M U (aw (bZ Y9) (ak ?_)));obtain⟨h,k,d,O,e,h3⟩:=key (gm x r) (rd r x);have hb:kindOf (gm x r).1=k:=by rw[e];rfl
  show _=some (D.bl (decide _),false);rw[hb];refine aP (.str k) (.str "found") (a0 [row h k [.int d,.str p]] (a9 (d:=row h k [.int d,.str p]) (b:=false) (aP (.tup aa) (.int (gm x r).2) rr ?_ (by simp[aY O])) rr) (bG _ _ _)) rr V9;have hm:∀ρ:DL.Env,ρ[0]? = some (sT aa)->ju (y6 [0] (fA gN (fV 1 (fV 0 av))) ρ) ((x::r).map λx=>D.int x.2)=some ((x::r).map λx=>.tup [.int (aO x.1),.int x.2]):=λρ h0=>
   gn (x::r) λy hy=>by
    obtain⟨h,k,d,O,e,h3⟩:=key y hy;have hd:aO y.1=d:=by rw[e];rfl
    rw[hd];show(fA gN _ _).map _=_;rw[a0 [.tup aa,.int y.2] (by simp[cm,h0]) (CK O h3)];rfl
  have hk:da ((x::r).map λx=>D.tup [.int (aO x.1),.int x.2])=some ((x::r).map kA):=fG (x::r) λy _=>rr;have hz:((x::r).map kA).zip ((x::r).map λx=>D.int x.2)=(kA x,.int x.2)::r.map λx=>(kA x,D.int x.2):=by
   rw[zip_map'];rfl
  unfold BU Q2;show((some _).bind _)=_;simp only[vJ];rw[hm _ rr];simp only[vJ];rw[hk];simp only[vJ];rw[if_pos (wL _),hz];simp only[nN]
noncomputable def fm:LS:=[("death" : Str)]
theorem iT:∀w∈fm,cf w=true:=by
 intro w hw;rcases vP hw with rfl|hw
 .decide +kernel
 simp_all
def wM (aa:LD)(ae:Int)(p:Str)(day:Int):Bool:=(pq aa ae fm p day).isEmpty
theorem Jp (aa:LD)(hr:∀r∈aa,nM r)(hl:aa.length<=1000)(ae:Int)(p:Str)(day:Int):Cw [.tup aa,.int ae,.str p,.int day]=sO (wM aa ae p day):=by
 have M:=wK _ hr hl ae _ iT p day;unfold wM;generalize pq _ _ _ p _=O at M |-;refine ah rr (ak (aP (.int ((O.map λx=>D.int x.2).length:Nat)) _ ?_ rr ?_))
 .exact a0 _ (a9 (a0 _ (by simp[sizeLine,fm]) M) rr) pB
 .cases O<;>simp
  lia
noncomputable def cU:D->Str
 |.tup [_,.tup (_::_::.str p::_)]=>p
 |_=>("" : Str)
noncomputable def yS:LS:=[("chosen" : Str),"heir","leave","paper","like","copy","call"]
theorem rf (k:Str):cN k=decide (k∈yS):=by
 simp_all[cN,yS,Bool.or_assoc]
theorem AM:gb=.tup (yS.map .str):=rfl
theorem jH (k:Str)(M:LS):fj (.str k) (.tup (M.map .str))=sO (!decide (k∈M)):=by
 simp only[fj,fz,vJ,mq];rw[if_pos ⟨rr,kh M⟩]
theorem Jq (h:cN k=true):lh bI (.str k) (.str "by")=sI 1:=by
 rcases lu h with rfl|rfl|rfl|rfl|rfl|rfl|rfl<;>exact bX
def iU (aa:LD)(ae:Int)(r:D):Bool:=(decide (a5 r<=ae) && cN (kindOf r)) && (wM aa ae (cU r) (aO r) && CJ aa ae (cU r) (aO r))
theorem jI {aa:LD}{i:Nat}{h:Int}{kind:Str}{ag:LD}(M:aa[i]? = some (row h kind ag))(ae:Int):cM [.tup aa,.int ae,.int i]=sO (decide (h<=ae)):=by
 have O:=(vV M).1;have ha:=aY M;refine ah rr (ak ?_);have:=bS (f1:=jp NS Wm (fI 0) (am 2) (fA pR (fV 0 av))) (f2:=f2 NS (f2 eG (f2 eG (am 0) (am 2)) (fI 0)) (am 1)) (ρ:=[sT aa,sI ae,sI i]) (q:=decide (h<=ae))
  (by
   refine(io (z:=.int aa.length) (b3:=false) (b4:=false) (p:=true) (q:=true) rr rr V9 V9 λ_=>?_).trans rr;simp;lia) λ_=>by simp[ha,row,ra]
 exact this
theorem yT (aa:LD)(hr:∀r∈aa,nM r)(hl:aa.length<=1000)(ae:Int){i:Nat}{r:D}(U:aa[i]? = some r):lq [.tup aa,.int ae,.int i]=sO (iU aa ae r):=by
 obtain⟨h,kind,ag,rfl,dp⟩:=hr r (vL U);have hk:=jI U ae;have ha:=aY U;have O:∀(ρ:DL.Env),f2 eG (am 0) (am 2) ρ=some (row h kind ag,false)->fA aS (ao _ av) ρ=sS kind:=λρ e=>a0 [row h kind ag] (a9 e rr) (bG _ _ _);have M:f2 eG (am 0) (am 2) [sT aa,sI ae,sI i,none,none]=some (row h kind ag,false):=by simp[ha]
 have hc:(iD (jm (bD (fA cM (fV 0 (fV 1 (fV 2 av)))))) (bD (f2 fj (fA aS (ao (f2 eG (am 0) (am 2)) av)) (fC gb)))) [sT aa,sI ae,sI i,none,none]=some (!decide (h<=ae) || !cN kind):=by
  refine bx (be (bZ (a0 _ rr hk))) λ_=>bZ (aP (.str kind) gb (O _ M) rr ?_);rw[AM,rf];exact jH kind yS
 have hs:iU aa ae (row h kind ag)=((decide (h<=ae) && cN kind) && (wM aa ae (cU (row h kind ag)) (aO (row h kind ag)) && CJ aa ae (cU (row h kind ag)) (aO (row h kind ag)))):=rr;cases hb:(decide (h<=ae) && cN kind) with
 |false=>
  rw[hs,hb];refine ah rr (aU (hc.trans ?_) (ak rr));rw[<-Bool.not_and,hb];rfl
 |true=>
  rw[hs,hb];rw[vB]at hb;obtain⟨day,p,a,rfl⟩:=dp.slg hb.2;rw[Bool.true_and];refine ah rr (aw (hc.trans (by rw[hb.1,hb.2];rfl)) (gA (.str p) (a0 _ (a9 M rr) (bf (i:=1) (Jq hb.2) rr)) rr (gA (.int day) (a0 [row h kind (.int day::.str p::a)] (a9 (b:=false) (by simp[ha]) rr) (rb (.inr hb.2) rr)) rr (ak ?_))));exact bS (b1:=false) (a0 _ V9 (Jp aa hr hl ae p day)) λ_=>a0 _ V9 (MB aa hr hl ae p day)
inductive Cd:Str->List D->Prop
 |root (o r:Str) (m f:Int):Cd ("root" : Str) [.str o,.int m,.int f,.str r]
 |named (d:Int) (o p:Str):Cd ("named" : Str) [.int d,.str o,.str p]
 |three (k:Str) (hk:k = "death" \/ k = "lost" \/ k = "found") (d:Int) (p:Str):Cd k [.int d,.str p]
 |other (k:Str) (hk:k = "leave" \/ k = "paper" \/ k = "like" \/ k = "copy" \/ k = "call") (d:Int) (b:Str) (r:List D) (hf:aQ r=true) (hp:r.all (aH 5)=true):Cd k (.int d::.str b::r)
theorem Cd.deed (h:Cd k r):DeedP k r:=by
 cases h with
 |root o rl m f=>exact⟨rr,V9,λh=>gP h,λh=>gP h⟩
 |named d o p=>exact⟨rr,V9,λh=>gP h,λh=>gP h⟩
 |three k hk d p=>exact⟨rr,V9,λ_=>⟨d,p,rr⟩,λh=>by lia⟩
 |other k hk d b r hf hp=>exact⟨by simp[hf],by simp_all,λh=>by rcases hk with rfl|rfl|rfl|rfl|rfl<;>exact gP h,λ_=>⟨d,b,r,rr⟩⟩
def wN (r:D):Prop:=∃h k ag,r=row h k ag/\Cd k ag
theorem wN.rp (h:wN r):nM r:=by obtain⟨a,k,ag,rfl,d⟩:=h;exact⟨a,k,ag,rr,d.deed⟩
def aJ (r:D):Bool:=decide (kindOf r = "root")
theorem Cd.day (h:Cd k r)(hk:k ≠ "root"):∃d q,r=.int d::q:=by
 cases h with
 |root=>exact absurd rr hk
 |named d=>exact⟨d,_,rr⟩
 |three _ _ d=>exact⟨d,_,rr⟩
 |other _ _ d=>exact⟨d,_,rr⟩
theorem Cd.day_idx (h:Cd k r)(hk:k ≠ "root"):lh bI (.str k) (.str "day")=sI 0:=by
 cases h with
 |root=>exact absurd rr hk
 |named=>exact bX
 |three _ hh=>rcases hh with rfl|rfl|rfl<;>exact bX
 |other _ hh=>rcases hh with rfl|rfl|rfl|rfl|rfl<;>exact bX
theorem bB (e:f ρ=some (.str a,bb))(h:decide (a=b)=x):bD (f2 je f (fS b)) ρ=some x:=by simp_all
def wO (r:D):D:=if aJ r=true then .non else .int (aO r)
theorem gp (g:wN r):aS [r]=sS (kindOf r):=by
 obtain⟨h,k,ag,rfl,_⟩:=g;exact bG h k _
theorem ug (g:wN r):bj [r]=some (wO r,false):=by
 obtain⟨h,k,ag,rfl,d⟩:=g;unfold wO;by_cases hk:k = "root"
 .have:aJ (row h k ag)=true:=xw hk;rw[if_pos this];exact ah rr (aU (bB (a0 _ rr (bG _ _ _)) (xw hk)) (ak rr))
 .have:aJ (row h k ag)=false:=ES hk;rw[if_neg (by rw[this];decide)];obtain⟨dd,q,rfl⟩:=d.day hk;exact ah rr (aw (bB (a0 _ rr (bG _ _ _)) (ES hk)) (ak (a0 _ rr (bf (d.day_idx hk) rr))))
def eZ (aa:LD):Prop:=aa.length<=60/\∀r∈aa,wN r
theorem eZ.rp (g:eZ aa):∀r∈aa,nM r:=λr hr=>(g.2 r hr).rp
theorem eZ.le (g:eZ aa):aa.length<=1000:=vR g.1 Z9
theorem aT (h:x∈aj aa ae):aa[x.2]? = some x.1:=by
 obtain⟨h1,_⟩:=vN h;exact List.mem_zipIdx_iff_getElem?.mp h1
theorem bT (aa:LD)(ae:Int):(aj aa ae).length<=aa.length:=by
 have:=vM (λx=>decide (a5 x.1<=ae)) aa.zipIdx;rw[length_zipIdx]at this;exact this
theorem dP (aa:LD)(ae:Int):((aj aa ae).map (·.2)).Nodup:=by
 have h1:(aa.zipIdx.map (·.2)).Nodup:=by simp_all[List.nodup_range']
 exact List.Nodup.sublist (List.Sublist.map _ (filter_sublist)) h1
def cC (aa:LD)(ae:Int):List (D×Nat):=(aj aa ae).filter λx=>!aJ x.1
def UY (aa:LD)(ae:Int):List (D×Nat):=cL (λx=>bV (kA x)) (cC aa ae)
theorem Jr (h:bV (kA a)=bV (kA b)):a.2=b.2:=by
 injection h with _ h;injection h with h;lia
theorem MC (ha:a∈aj aa ae)(hb:b∈aj aa ae)(h:a.2=b.2):a=b:=by
 have h1:=aT ha;have h2:=aT hb;rw[h,h2]at h1;exact Prod.ext (vK h1).symm h
theorem oG (g:eZ aa)(ae:Int):eA [.tup aa,.int ae]=lT ((UY aa ae).map λx=>.int x.2):=by
 have hl:=g.1;have l:=bT aa ae;have O:∀x∈aj aa ae,l5 aa (x.2:Int)=some x.1/\wN x.1:=λx hx=>⟨aY (aT hx),g.2 _ (vL (aT hx))⟩;have hc:=dH (fi:=cb (fA eK (fV 0 (fV 1 av)))) (nT:=1) (cap:=[0]) (tg:=dS 0) (c:=bD (f2 gI (fA bj (ao (f2 eG (am 1) (am 0)) av)) (fC .non))) (fe:=am 0) (ρ:=[sT aa,sI ae,none]) (aj aa ae) (λx=>.int x.2) (λx=>!aJ x.1) (λx=>.int x.2)
  (by
   show(fA eK (fV 0 (fV 1 av)) _).bind _=_;rw[a0 [.tup aa,.int ae] rr (jG aa g.rp g.le ae)];rfl) N9 λx hx=>by
   obtain⟨ha,f⟩:=O x hx;refine⟨_,rr,bZ (aP (wO x.1) .non (a0 [x.1] (by simp[cm,ha]) (ug f)) rr ?_),λ_=>⟨false,by simp[cm]⟩⟩;unfold wO;split<;>simp_all
 have i:=hc;have j:aQ ((cC aa ae).map λx=>D.int x.2)=true:=bL λd hd=>by obtain⟨x,_,rfl⟩:=vO hd;rfl
 have m:(cC aa ae).length<=60:=vR (vM _ _) N9;have M:∀x∈cC aa ae,x∈aj aa ae/\aJ x.1=false:=λx hx=>by
  obtain⟨h1,h2⟩:=vN hx;lia
 have hm:∀ρ:DL.Env,ρ[0]? = some (sT aa)->ju (y6 [0] (fA gN (fV 1 (fV 0 av))) ρ) ((cC aa ae).map λx=>.int x.2)=some _:=λρ h0=>
  gn (cC aa ae) λx hx=>by
   obtain⟨h1,h2⟩:=M x hx;obtain⟨ha,f⟩:=O x h1;have hd:=ug f;unfold wO at hd;rw[h2,if_neg Z9]at hd;have hr:gN [.tup aa,.int x.2]=sT [.int (aO x.1),.int x.2]:=ah rr (ak (a0 [.int (aO x.1),.int x.2] (a9 (d:=.int (aO x.1)) (b:=false) (a0 [x.1] (by simp[ha]) hd) rr) T9));show(fA gN _ _).map _=_;rw[a0 [.tup aa,.int x.2] (by simp[cm,h0]) hr];rfl
 have hk:da ((cC aa ae).map λx=>D.tup [.int (aO x.1),.int x.2])=some ((cC aa ae).map kA):=fG _ λx _=>rr;have hz:((cC aa ae).map kA).zip ((cC aa ae).map λx=>D.int x.2)=(cC aa ae).map λx=>(kA x,D.int x.2):=by rw[zip_map']
 have k:((cC aa ae).map (·.2)).Nodup:=List.Nodup.sublist (List.Sublist.map _ (filter_sublist)) (dP aa ae);have U:((cC aa ae).map kA).length<64/\cr ((cC aa ae).map kA)=true/\c7 ((cC aa ae).map kA)=true/\(((cC aa ae).map kA).map bV).Nodup:=by
  refine⟨by rw[vH];lia,wL _,?_,?_⟩
  .unfold c7;rw[Bool.or_eq_true];left;simp[all_eq_true,kA]
  .rw[uO];exact List.Pairwise.map _ (λa b h e=>h (Jr e)) (pairwise_map.mp k)
 refine ah rr (b9 i j (ak ?_));show(wu (am 2) _ _)=_;unfold wu;show((some (D.lst ((cC aa ae).map λx=>D.int x.2),false)).bind _)=_;simp only[vJ];rw[hm _ rr];simp only[vJ];rw[hk];simp only[vJ];rw[if_pos U];unfold hU;rw[hz];have key:((UY aa ae).map λx=>(kA x,D.int x.2))=cL (λp:List At×D=>bV p.1) ((cC aa ae).map λx=>(kA x,D.int x.2)):=by
  refine gZ _ (λx hx y hy e=>?_) ((aC _ _).map _) ?_
  .obtain⟨a,ha,rfl⟩:=vO hx;obtain⟨b,hb,rfl⟩:=vO hy;rw[MC (M a ha).1 (M b hb).1 (Jr e)]
  .exact pairwise_map.mpr (dn _ _)
 rw[<-key,uO];rfl
structure Cl where
 o:Str
 p:Str
 s:Int
 u:Option Int
 n:Nat
noncomputable def uD:OI->D
 |none=>.non
 |some x=>.int x
noncomputable def ba (c:Cl):D:=.tup [.str c.o,.str c.p,.int c.s,uD c.u,.int c.n]
theorem CL (u:OI):aI (uD u)=true:=by cases u<;>rfl
theorem mr (c:Cl):aI (ba c)=true:=by simp[ba,CL]
theorem ms (cs:List Cl):aQ (cs.map ba)=true:=by grind[bL,mr]
noncomputable def gu (c:Cl)(day:Int):Bool:=decide (c.s<=day) && (match c.u with|none=>true|some x=>decide (day<x))
theorem at3 (d e f g:D)(r:LD):l5 (d::e::f::g::r) 3=some g:=by have:=gK (xs:=d::e::f::g::r) (j:=3) V9;simpa using this
theorem at4 (d e f g h:D)(r:LD):l5 (d::e::f::g::h::r) 4=some h:=by have:=gK (xs:=d::e::f::g::h::r) (j:=4) V9;simpa using this
theorem Wp (c:Cl):eG (ba c) (.int 0)=sS c.o:=by simp[ba,ra]
theorem SA (c:Cl):eG (ba c) (.int 1)=sS c.p:=by simp[ba,at1]
theorem Z0 (c:Cl):eG (ba c) (.int 2)=sI c.s:=by simp[ba,at2]
theorem cl3 (c:Cl):eG (ba c) (.int 3)=some (uD c.u,false):=by simp[ba,at3]
theorem Z1 (c:Cl):eG (ba c) (.int 4)=sI c.n:=by simp[ba,at4]
theorem aW (ds:LD)(h:ds.length<=100):cn ds=sT ds:=if_pos (bg N9)
theorem cz (ds:LD)(h:ds.length<=100):fy ds=lT ds:=if_pos (bg N9)
theorem wP (s day:Int)(u:OI):kg [.int day,.tup [.int s,uD u]]=sO (decide (s<=day) && (match u with|none=>true|some x=>decide (day<x))):=by
 refine ah rr (ak (bS (b1:=false) (by simp[ra]) λ_=>?_));cases u with
 |none=>rfl
 |some x=>rfl
theorem rg (c:Cl)(day:Int):ge [ba c,.int day]=sO (gu c day):=
 ah rr (ak (a0 _ (aV rr (aV (a0 _ (a9 (aP _ _ rr rr (Z0 c)) (a9 (aP _ _ rr rr (cl3 c)) rr)) (aW _ V9)) rr)) (wP _ _ _)))
noncomputable def kS (c:Cl):List At:=[.i c.s,.i c.n]
def nO:Cl->List Cl->Cl
 |b,[]=>b
 |b,x::r=>if aR (kS x) (kS b)=some true then nO x r else nO b r
def wQ:Cl->List Cl->Cl
 |b,[]=>b
 |b,x::r=>if aR (kS b) (kS x)=some true then wQ x r else wQ b r
theorem rh:∀(r:List Cl)(b:Cl),o0 (kS b,ba b) (r.map λx=>(kS x,ba x))=ba (nO b r)
 |[],b=>rr
 |x::r,b=>by
  rw[uX,o0,nO];split
  .exact rh r x
  .exact rh r b
theorem rj:∀(r:List Cl)(b:Cl),oy (kS b,ba b) (r.map λx=>(kS x,ba x))=ba (wQ b r)
 |[],b=>rr
 |x::r,b=>by
  rw[uX,oy,wQ];split
  .exact rj r x
  .exact rj r b
theorem CM (cs:List Cl):cr (cs.map kS)=true:=by
 simp_all[cr,kS,Rh]
theorem ro (ρ:DL.Env)(cs:List Cl):ju (Ed iN ρ) (cs.map ba)=some (cs.map λc=>.tup [.int c.s,.int c.n]):=gn cs λc _=>by
 rfl
theorem oH (cs:List Cl):da (cs.map λc=>D.tup [.int c.s,.int c.n])=some (cs.map kS):=fG cs λc _=>rr
theorem Js (e:f ρ=some (.lst ((b::r).map ba),bb)):BV f (Ed iN) ρ=some (ba (nO b r),false):=by
 unfold BV Q2;rw[e,vJ];dsimp;rw[ro,vJ,oH,vJ,if_pos (CM _)];have:((b::r).map kS).zip ((b::r).map ba)=(kS b,ba b)::r.map λx=>(kS x,ba x):=by rw[zip_map'];rfl
 rw[this];show some _=_;rw[rh]
theorem Ri (e:f ρ=some (.lst ((b::r).map ba),bb)):BU f (Ed iN) ρ=some (ba (wQ b r),false):=by
 unfold BU Q2;rw[e,vJ];dsimp;rw[ro,vJ,oH,vJ,if_pos (CM _)];have:((b::r).map kS).zip ((b::r).map ba)=(kS b,ba b)::r.map λx=>(kS x,ba x):=by rw[zip_map'];rfl
 rw[this];show some _=_;rw[rj]
def iV (rl:Str)(b:Cl)(r:List Cl):Cl:=if rl = "last" then wQ b r else nO b r
theorem Jt (rl:Str)(b:Cl)(r:List Cl):qT [.lst ((b::r).map ba),.str rl]=sS (iV rl b r).p:=by
 unfold iV;by_cases h:rl = "last"
 .rw[if_pos h];exact ah rr (aU (bB rr (xw h)) (ak (aP _ _ (Ri rr) rr (SA _))))
 .rw[if_neg h];exact ah rr (aw (bB rr (ES h)) (ak (aP _ _ (Js rr) rr (SA _))))
theorem rq:∀(r:List Cl)(b:Cl),nO b r∈b::r
 |[],b=>by simp[nO]
 |x::r,b=>by
  rw[nO];split
  .exact mZ _ (rq r x)
  .rcases vP (rq r b)with h|h
   .rw[h];exact mX
   .simp_all
theorem rz:∀(r:List Cl)(b:Cl),wQ b r∈b::r
 |[],b=>by simp[wQ]
 |x::r,b=>by
  rw[wQ];split
  .exact mZ _ (rz r x)
  .rcases vP (rz r b)with h|h
   .rw[h];exact mX
   .simp_all
theorem Ey (rl:Str)(b:Cl)(r:List Cl):iV rl b r∈b::r:=by
 grind[iV,rz,rq]
noncomputable def UZ (cs:List Cl)(o:Str)(day:Int):List Cl:=cs.filter λc=>decide (c.o=o) && gu c day
def nQ (cs:List Cl):LS:=kI (dU (cs.map (·.p)))
def Va:List Cl->Nat
 |[]=>0
 |b::r=>(nO b r).n
def oJ (rl:Str):List Cl->D
 |[]=>.tup [.str "none"]
 |b::r=>if 1<(nQ (b::r)).length/\rl = "open" then .tup [.str "parted",.lst ((nQ (b::r)).map .str)]
  else .tup [.str "one",.str (iV rl b r).p,.int (Va ((b::r).filter λc=>decide (c.p=(iV rl b r).p)))]
def ja (cs:List Cl)(o rl:Str)(day:Int):D:=oJ rl (UZ cs o day)
theorem MD {z:Str}:dU (z::zs)≠[]:=by
 have:∀(ss:List _)(M:List _),z∈M->z∈ss.foldl iJ M:=λss=>by
  induction ss with
  |nil=>intro M h;exact h
  |cons a l O=>intro M h;exact O _ (qc.mpr (.inl h))
 grind[iJ,dU]
theorem oK:ay [row h ("root" : Str) [.str o,.int m,.int f,.str rl],.str "office"]=sS o:=bf (i:=0) bX rr
theorem Ez:ay [row h ("root" : Str) [.str o,.int m,.int f,.str rl],.str "rule"]=sS rl:=bf (i:=3) bX rr
theorem r6 (zs:LS):eQ (zs.map .str)=some zs:=by
 simp
theorem mu (cs:List Cl)(hl:cs.length<=60)(day:Int):o8 [.lst (cs.map ba),row h ("root" : Str) [.str o,.int m,.int f,.str rl],.int day]=some (ja cs o rl day,false):=by
 let rt:D:=row h ("root" : Str) [.str o,.int m,.int f,.str rl];have h1:=dH (fi:=cb (am 0)) (nT:=1) (cap:=[2,1]) (tg:=dS 0) (c:=ft (bD (f2 je (jw 0 0) (fA ay (fV 2 (ao (fS "office") av))))) (bD (fA ge (fV 0 (fV 1 av))))) (fe:=am 0)
  (ρ:=[sL (cs.map ba),some (rt,false),sI day,none,none,none,none]) cs ba (λc=>decide (c.o=o) && gu c day) ba V9 N9 λc hc=>by
   refine⟨_,rr,ce (bZ (aP (.str c.o) (.str o) (aP (ba c) (.int 0) (by simp[cm]) rr (Wp c)) (a0 [rt,.str "office"] (by simp[cm]) oK) V9)) λ_=>bZ (a0 [ba c,.int day] (by simp[cm]) (rg c day)),λ_=>⟨false,by simp[cm]⟩⟩
 have d:fw (cb (am 0)) 1 [2,1] (dS 0) _ (am 0) _=lT ((UZ cs o day).map ba):=h1;have a:(UZ cs o day).length<=60:=vR (vM _ _) hl;unfold ja;generalize UZ cs o day=al at d a;have h2:∀ρ:DL.Env,ρ[3]? = some (lT (al.map ba))->f1 lP (fw (cb (am 3)) 1 [] (dS 0) pP (jw 0 1)) ρ=lT ((nQ al).map .str):=λρ h3=>by
  have hc:=f8 (fi:=cb (am 3)) (nT:=1) (cap:=[]) (tg:=dS 0) (fe:=jw 0 1) (ρ:=ρ) al ba (λc=>.str c.p) (by simp[h3]) N9 λc hc=>⟨_,rr,false,aP (ba c) (.int 1) (by simp[cm]) rr (SA c)⟩;have e2:al.map (λc=>D.str c.p)=(al.map (·.p)).map .str:=by rw[uO];rfl
  rw[e2]at hc;unfold f1;rw[hc,vJ];show(eQ ((al.map (·.p)).map .str)).bind _=_;rw[r6,vJ,if_pos (by rw[vH];lia)];rfl
 have i:aQ ((nQ al).map D.str)=true:=bo _;refine ah rr (b9 (ds:=al.map ba) d (ms al) (b9 (ds:=(nQ al).map .str) (h2 _ rr) i ?_));cases al with
 |nil=>rfl
 |cons b r=>
  have j:(nQ (b::r)).length≠0:=by
   unfold nQ;rw[(dm _).length_eq];grind[MD]
  refine aw (bZ (by simp[j])) ?_;have M:∀ρ:DL.Env,ρ[1]? = some (some (rt,false))->fA ay (fV 1 (ao (fS "rule") av)) ρ=sS rl:=λρ k=>a0 [rt,.str "rule"] (by simp[k]) Ez;by_cases hp:1<(nQ (b::r)).length/\rl = "open"
  .have:oJ rl (b::r)=.tup [.str "parted",.lst ((nQ (b::r)).map .str)]:=by rw[oJ,if_pos hp]
   rw[this];exact aU (ce (p:=true) (q:=true) (bZ Y9) λ_=>bB (bb:=false) (M _ rr) (xw hp.2)) (ak (a0 [.str "parted",.lst ((nQ (b::r)).map .str)] V9 (aW _ V9)))
  .have:oJ rl (b::r)=.tup [.str "one",.str (iV rl b r).p,.int (Va ((b::r).filter λc=>decide (c.p=(iV rl b r).p)))]:=by rw[oJ,if_neg hp]
   rw[this];have O:ft (bD (f2 Ss (fA pR (fV 4 av)) (fI 1))) (bD (f2 je (fA ay (fV 1 (ao (fS "rule") av))) (fS "open"))) [sL (cs.map ba),some (rt,false),sI day,lT ((b::r).map ba),lT ((nQ (b::r)).map .str),none,none]=some false:=by
    by_cases h5:1<(nQ (b::r)).length
    .exact ce (p:=true) (q:=false) (bZ Y9) λ_=>bB (bb:=false) (M _ rr) (ES λe=>hp ⟨h5,e⟩)
    .exact ce (p:=false) (q:=false) (bZ Y9) V9
   have l:=Ey rl b r;let ch:=iV rl b r;have g:=dH (fi:=cb (am 3)) (nT:=1) (cap:=[5]) (tg:=dS 0) (c:=bD (f2 je (jw 0 1) (am 1))) (fe:=am 0) (ρ:=[sL (cs.map ba),some (rt,false),sI day,lT ((b::r).map ba),lT ((nQ (b::r)).map .str),sS ch.p,none]) (b::r) ba (λc=>decide (c.p=ch.p)) ba V9 N9 λc hc=>⟨_,rr,bZ (aP (.str c.p) (.str ch.p) (aP (ba c) (.int 1) (by simp[cm]) rr (SA c)) (by simp[cm]) V9),λ_=>⟨false,by simp[cm]⟩⟩;obtain⟨b2,U,hf⟩:∃b2 U,(b::r).filter (λc=>decide (c.p=ch.p))=b2::U:=by
    cases hq:(b::r).filter (λc=>decide (c.p=ch.p)) with
    |nil=>
     have:=List.filter_eq_nil_iff.mp hq _ l;lia
    |cons b2 U=>exact⟨b2,U,rr⟩
   rw[hf]at g |-;refine aw O (gA (.str ch.p) (a0 [.lst ((b::r).map ba),.str rl] (aV V9 (a9 (M _ rr) rr)) (Jt rl b r)) rr (gA (ba (nO b2 U)) (Js (bb:=true) g) (mr _) (ak (a0 [.str "one",.str ch.p,.int (nO b2 U).n] (aV rr (aV rr (a9 (aP (ba (nO b2 U)) (.int 4) rr rr (Z1 _)) rr))) (aW _ V9)))))
def Oq:D->D
 |.tup ds=>.tup (jf ds none (some 2))
 |d=>d
def jb (cs:List Cl)(o rl p:Str)(day:Int):Bool:=cJ (Oq (ja cs o rl day)) (.tup [.str "one",.str p])
theorem E1 (rl:Str)(M:List Cl):∃ds,oJ rl M=.tup ds/\ds.all (aH 5)=true:=by
 cases M with
 |nil=>exact⟨_,rr,V9⟩
 |cons b r=>
  rw[oJ];split
  .simp
  .exact⟨_,rr,V9⟩
theorem Ju (h:ds.all (aH 5)=true):(jf ds lo hi).all (aH 5)=true:=by
 rw[all_eq_true]at h |-;exact λd hd=>h d (List.mem_of_mem_drop (mem_of_mem_take hd))
theorem uh (h:ds.all (aH 5)=true):aH 40 (.tup ds)=true:=gk 6 40 _ Z9 (by simpa only[aH]using h)
theorem CN (cs:List Cl)(hl:cs.length<=60)(p:Str)(day:Int):dL [.lst (cs.map ba),row h ("root" : Str) [.str o,.int m,.int f,.str rl],.str p,.int day]=sO (jb cs o rl p day):=by
 have hb:=mu cs hl (h:=h) (o:=o) (rl:=rl) (m:=m) (f:=f) day;obtain⟨ds,e,hd⟩:=E1 rl _;have M:ja cs o rl day=.tup ds:=e;refine ah rr (ak (aP (Oq (ja cs o rl day)) (.tup [.str "one",.str p]) ?_ T9 ?_))
 .have hc:=aE (fa:=fV 0 (fV 1 (fV 3 av))) (ρ:=[sF _,some (row h _ _,false),sS p,sF _]) rr hb;rw[M]at hc |-;unfold sr;rw[show(List.map _ _++List.replicate 0 _:DL.Env)=[sF _,some _,sF _,sF _]from rr,hc];rfl
 .unfold jb je;rw[if_pos];rw[M];exact⟨uh (Ju hd),uh V9⟩
noncomputable def aM (j:Nat):D->Str
 |.tup [_,.tup (_::ag)]=>match ag[j]? with
  |some (.str s)=>s
  |_=>("" : Str)
 |_=>("" : Str)
noncomputable def gy (j:Nat):D->Int
 |.tup [_,.tup (_::ag)]=>match ag[j]? with
  |some (.int s)=>s
  |_=>0
 |_=>0
theorem Cd.root_of (h:Cd ("root" : Str) r):∃o rl,∃m f:Int,r=[.str o,.int m,.int f,.str rl]:=by
 generalize hk:("root" : Str)=k at h;cases h with
 |root o rl m f=>exact⟨o,rl,m,f,rr⟩
 |named=>exact gP hk
 |three _ hh=>rcases hh with rfl|rfl|rfl<;>exact gP hk
 |other _ hh=>rcases hh with rfl|rfl|rfl|rfl|rfl<;>exact gP hk
theorem E2 {κ α:Type}[DecidableEq κ]{ks:List κ}{k:κ}{x y:α}:∀ {xs:List α},y∈dc ks xs k x->y=x\/y∈xs:=by
 intro xs h;unfold dc at h;split at h
 .rename_i M;clear M;induction ks generalizing xs with
  |nil=>simp at h
  |cons a ks O=>
   cases xs with
   |nil=>simp at h
   |cons b xs=>
    grind[List.zipWith_cons_cons]
 .grind
theorem ui:∀(l:List (di×D))(a:LK×LD)(y:D),y∈(l.foldl qy a).2->y∈a.2\/∃p∈l,p.2=y
 |[],a,y,h=>.inl h
 |p::l,a,y,h=>by
  rcases ui l _ y h with h|⟨q,hq,e⟩
  .rcases E2 (show y∈dc _ _ _ _ from h)with h|h
   .exact .inr ⟨p,mX,h.symm⟩
   .exact .inl h
  .exact .inr ⟨q,mZ _ hq,e⟩
theorem uj {α:Type}(f:α->Str)(g:α->D):∀(l:List α),fX (l.map λx=>D.tup [.str (f x),g x])=some (l.map λx=>(.inr (f x),g x))
 |[]=>rr
 |x::l=>by
  rw[uX,fX,uj f g l];rfl
theorem yU {κ:Type}[DecidableEq κ]:∀ {ks:List κ}{vs:LD}{k:κ}{v:D},eU ks vs k=some v->v∈vs
 |k'::ks,d::ds,k,v,h=>by
  unfold eU at h;split at h
  .cases h;exact mX
  .exact mZ _ (yU h)
 |[],_,_,_,h=>by simp[eU]at h
 |_::_,[],_,_,h=>by simp[eU]at h
noncomputable def rA (KL:List (D×Nat)):List (di×D):=(KL.filter λx=>aJ x.1).map λx=>(.inr (aM 0 x.1),x.1)
def yV (KL:List (D×Nat))(o:Str):Option D:=eU (bN (rA KL)).1 (bN (rA KL)).2 (.inr o)
theorem rB (g:wN r)(h:aJ r=true):∃a o rl,∃m f:Int,r=row a ("root" : Str) [.str o,.int m,.int f,.str rl]:=by
 obtain⟨a,k,ag,rfl,d⟩:=g;have hk:=ET h;subst hk;obtain⟨o,rl,m,f,rfl⟩:=d.root_of;exact⟨a,o,rl,m,f,rr⟩
theorem c9 (g:eZ aa)(hx:x∈aj aa ae):l5 aa (x.2:Int)=some x.1/\wN x.1:=⟨aY (aT hx),g.2 _ (vL (aT hx))⟩
theorem yW (g:eZ aa)(h:yV (aj aa ae) o=some v):∃a M rl,∃m f:Int,v=row a ("root" : Str) [.str M,.int m,.int f,.str rl]:=by
 have hv:=yU h;rcases ui _ _ v hv with h|⟨p,hp,e⟩
 .cases h
 .obtain⟨x,hx,rfl⟩:=vO hp;obtain⟨h1,h2⟩:=vN hx;rw[<-e];exact rB (c9 g h1).2 h2
theorem rC (g:eZ aa)(ae:Int):iM [.tup aa,.int ae]=sF (.dk (bN (rA (aj aa ae))).1 (bN (rA (aj aa ae))).2):=by
 have hl:=bT aa ae;have O:=g.1;have h1:=f8 (fi:=cb _) (nT:=1) (cap:=[0]) (tg:=dS 0) (fe:=f2 eG (am 1) (am 0)) (ρ:=[sT aa,sI ae,none]) (aj aa ae) (λx=>.int x.2) Prod.fst
  (by
   show(fA eK (fV 0 (fV 1 av)) _).bind _=_;rw[a0 [.tup aa,.int ae] rr (jG aa g.rp g.le ae)];rfl) N9 λx hx=>by
   have ha:=(c9 g hx).1;exact⟨_,rr,false,by simp[cm,ha]⟩
 have hn:aQ ((aj aa ae).map Prod.fst)=true:=bL λd hd=>by
  obtain⟨x,hx,rfl⟩:=vO hd;exact(c9 g hx).2.rp.flat
 have h2:=dH (fi:=cb (am 2)) (nT:=1) (cap:=[]) (tg:=dS 0) (c:=bD (f2 je (fA aS (fV 0 av)) (fS "root"))) (fe:=fA cn (ao (fA ay (fV 0 (ao (fS "office") av))) (fV 0 av)))
  (ρ:=[sT aa,sI ae,lT ((aj aa ae).map Prod.fst)]) (aj aa ae) Prod.fst (λx=>aJ x.1) _ V9 N9 λx hx=>by
   have M:=(c9 g hx).2;refine⟨_,rr,bB (a:=kindOf x.1) (bb:=false) (a0 [x.1] rr (gp M)) rr,λhp=>⟨false,?_⟩⟩;obtain⟨a,o,rl,m,f,e⟩:=rB M hp;refine a0 [.str (aM 0 x.1),x.1] (aV (a0 [x.1,.str "office"] rr ?_) rr) (aW _ V9);rw[e];rfl
 refine ah rr (b9 h1 hn (ak (a0 _ (a9 h2 rr) ?_)));show(fX _).map _=_;rw[uj _ Prod.fst];rfl
def AN:D×Nat->List (D×Nat)->D×Nat
 |b,[]=>b
 |b,x::r=>if aR (kA x) (kA b)=some true then AN x r else AN b r
theorem wR:∀(r:List (D×Nat))(b:D×Nat),o0 (kA b,.int b.2) (r.map λx=>(kA x,D.int x.2))=.int (AN b r).2
 |[],b=>rr
 |x::r,b=>by
  rw[uX,o0,AN];split
  .exact wR r x
  .exact wR r b
def wS (KL:List (D×Nat))(p:Str)(day:Int)(i:Nat):Bool:=match KL.filter (λx=>told fm p day x.1) with
 |[]=>false
 |b::r=>decide ((AN b r).2=i)
theorem Jv (g:eZ aa)(ae:Int)(hx:x∈aj aa ae)(e:x.1=row a ("death" : Str) [.int d,.str p]):ir [.tup aa,.int ae,.int x.2]=sO (wS (aj aa ae) p d x.2):=by
 have ha:=(c9 g hx).1;have l:=(c9 g hx).2;have j:=wK aa g.rp g.le ae fm iT p d;have O:ay [x.1,.str "person"]=sS p:=by rw[e];exact bf (i:=1) bX rr
 have U:bj [x.1]=sI d:=by rw[e];rfl
 have M:x∈pq aa ae fm p d:=List.mem_filter.mpr ⟨hx,by simp_all[told,row,fm,CG]⟩;have f:wS (aj aa ae) p d x.2=match pq aa ae fm p d with|[]=>false|b::r=>decide ((AN b r).2=x.2):=rr
 have key:∀y∈pq aa ae fm p d,∃h k dd,aa[y.2]? = some (row h k [.int dd,.str p])/\y.1=row h k [.int dd,.str p]/\cf k=true:=λy hy=>by
  obtain⟨c,m⟩:=CH hy;obtain⟨h,k,dd,e2,h3,_⟩:=re iT (g.rp _ (vL c)) m;exact⟨h,k,dd,by rw[c,e2],e2,h3⟩
 rw[f];cases hs:pq aa ae fm p d with
 |nil=>rw[hs]at M;cases M
 |cons b r=>
  rw[hs]at j key;have hm:∀ρ:DL.Env,ρ[0]? = some (sT aa)->ju (y6 [0] (fA gN (fV 1 (fV 0 av))) ρ) ((b::r).map λy=>.int y.2)=some ((b::r).map λy=>.tup [.int (aO y.1),.int y.2]):=λρ h0=>
   gn (b::r) λy hy=>by
    obtain⟨h,k,dd,c,e2,h3⟩:=key y hy;show(fA gN _ _).map _=_;rw[a0 [.tup aa,.int y.2] (by simp[cm,h0]) (CK c h3),e2];rfl
  have hk:da ((b::r).map λy=>D.tup [.int (aO y.1),.int y.2])=some ((b::r).map kA):=fG _ λy _=>rr;have hz:((b::r).map kA).zip ((b::r).map λy=>D.int y.2)=(kA b,D.int b.2)::r.map λy=>(kA y,D.int y.2):=by rw[zip_map'];rfl
  have n:aQ ((b::r).map λy=>D.int y.2)=true:=bL λd hd=>by obtain⟨y,_,rfl⟩:=vO hd;rfl
  refine ah rr (gA x.1 (by simp[ha]) l.rp.flat (b9 (a0 [.tup aa,.int ae,.tup (fm.map .str),.str p,.int d] (aV rr (aV rr (aV (a0 [.str "death"] rr (aW _ V9)) (a9 (a0 [x.1,.str "person"] rr O) (a9 (a0 [x.1] rr U) rr))))) j) n (ak (aP (.int (AN b r).2) (.int x.2) ?_ rr ?_))))
  .unfold BV Q2;show((some _).bind _)=_;rw[vJ];dsimp only;rw[hm _ rr,vJ,hk,vJ,if_pos (wL _),hz];simp_all[wR]
  simp_all<;>lia
abbrev KL:=List (D×Nat)
noncomputable def Rk (K:KL)(p:Str)(day:Int):Bool:=(K.filter λx=>told fm p day x.1).isEmpty
def Vb (K:KL)(p:Str)(day:Int):Bool:=match Op (K.filter λx=>told oE p day x.1) with
 |none=>true
 |some x=>decide (kindOf x.1 = "found")
def wT (K:KL)(r:D):Bool:=cN (kindOf r) && (Rk K (cU r) (aO r) && Vb K (cU r) (aO r))
noncomputable def E3:LS:=[("named" : Str),"chosen","heir"]
def dQ (K:KL)(x:D×Nat):Bool:=
 if kindOf x.1 = "death" then wS K (aM 1 x.1) (aO x.1) x.2
 else if kindOf x.1 = "named" then (yV K (aM 1 x.1)).isSome
 else false
theorem E4 (g:eZ aa)(ae:Int)(so:List Cl)(hx:x∈aj aa ae)(O:aJ x.1=false):qU [.tup aa,.int ae,.lst (so.map ba),.int x.2]=sO (dQ (aj aa ae) x):=by
 obtain⟨ha,U⟩:=c9 g hx;have hf:aI x.1=true:=U.rp.flat;have hw:∀ρ:DL.Env,ρ[4]? = some (some (x.1,false))->fA aS (fV 4 av) ρ=sS (kindOf x.1):=λρ h4=>a0 [x.1] (by simp[h4]) (gp U);have M:∀ρ:DL.Env,ρ[4]? = some (some (x.1,false))->bD (f2 fj (fA aS (fV 4 av)) (fA cn (ao (fS "named") (ao (fS "chosen") (ao (fS "heir") av))))) ρ=some (!decide (kindOf x.1∈E3)):=λρ h4=>
  bZ (aP (.str (kindOf x.1)) (.tup (E3.map .str)) (hw ρ h4) (by simp[sizeLine,E3]) (jH _ _))
 by_cases hd:kindOf x.1 = "death"
 .obtain⟨a,k,ag,e,d⟩:=U;have hk:k = "death":=by rw[e]at hd;exact hd
  subst hk;obtain⟨dd,p,rfl⟩:=d.deed.three H9;have hc:dQ (aj aa ae) x=wS (aj aa ae) p dd x.2:=by
   unfold dQ;rw[if_pos hd,e];rfl
  rw[hc];exact ah rr (gA x.1 (by simp[ha]) hf (aU (bB (bb:=false) (hw _ rr) (xw hd)) (ak (a0 [.tup aa,.int ae,.int x.2] rr (Jv g ae hx e)))))
 .by_cases hn:kindOf x.1 = "named"
  .have h3:kindOf x.1∈E3:=by rw[hn];decide +kernel
   have j:ay [x.1,.str "office"]=sS (aM 1 x.1):=by
    obtain⟨a,k,ag,e,d⟩:=U;rw[e]at hn |-;replace hn:k = "named":=hn;cases d with
    |named d o p=>exact bf (i:=1) bX rr
    |root=>exact gP hn
    |three _ hk=>rcases hk with rfl|rfl|rfl<;>exact gP hn
    |other _ hk=>rcases hk with rfl|rfl|rfl|rfl|rfl<;>exact gP hn
   have b:∀ρ:DL.Env,ρ[0]? = some (sT aa)->ρ[1]? = some (sI ae)->ρ[4]? = some (some (x.1,false))->f2 UG (fA iM (fV 0 (fV 1 av))) (fA ay (fV 4 (ao (fS "office") av))) ρ=some ((yV (aj aa ae) (aM 1 x.1)).getD .non,false):=λρ l m n=>
    aP _ (.str (aM 1 x.1)) (a0 [.tup aa,.int ae] (by simp[l,m]) (rC g ae)) (a0 [x.1,.str "office"] (by simp[n]) j) rr
   have hc:dQ (aj aa ae) x=(yV (aj aa ae) (aM 1 x.1)).isSome:=by unfold dQ;rw[if_neg hd,if_pos hn]
   rw[hc];cases hr:yV (aj aa ae) (aM 1 x.1) with
   |none=>
    rw[hr]at b;exact ah rr (gA x.1 (by simp[ha]) hf (aw (bB (bb:=false) (hw _ rr) (ES hd)) (aw (by rw[M _ rr,xw h3];rfl) (gA .non (b _ rr rr rr) rr (aU (bZ (aP .non .non rr rr V9)) (ak rr))))))
   |some v=>
    rw[hr]at b;obtain⟨r,s,q,t,u,h⟩:=yW g hr;have c:aI v=true:=by rw[h];rfl
    have f:Su v .non=sO false:=by rw[h];simp[row]
    exact ah rr (gA x.1 (by simp[ha]) hf (aw (bB (bb:=false) (hw _ rr) (ES hd)) (aw (by rw[M _ rr,xw h3];rfl) (gA v (b _ rr rr rr) c (aw (bZ (aP v .non rr rr f)) (aU (bB (bb:=false) (hw _ rr) (xw hn)) (ak rr)))))))
  .have hc:dQ (aj aa ae) x=false:=by unfold dQ;rw[if_neg hd,if_neg hn]
   have h3:kindOf x.1∉E3:=by
    obtain⟨a,k,ag,e,d⟩:=U;rw[e]at hn O |-;show k∉E3;cases d with
    |named d o p=>exact absurd rr hn
    |root=>cases O
    |three _ hk=>rcases hk with rfl|rfl|rfl<;>decide +kernel
    |other _ hk=>rcases hk with rfl|rfl|rfl|rfl|rfl<;>decide +kernel
   rw[hc];exact ah rr (gA x.1 (by simp[ha]) hf (aw (bB (bb:=false) (hw _ rr) (ES hd)) (aU (by rw[M _ rr,ES h3];rfl) (ak rr))))
def eD (M:LS)(p:Str)(day:Int)(c:Cl):List Cl:=
 if(!decide (c.o∈M) || (!decide (c.p=p) || !(gu c day || decide (day<c.s))))=true then [c]else if c.s<day then [⟨c.o,p,c.s,some day,c.n⟩]else []
noncomputable def c6 (so:List Cl)(M:LS)(p:Str)(day:Int):List Cl:=so.flatMap (eD M p day)
theorem iW (M:LS)(p:Str)(day:Int):∀so:List Cl,(c6 so M p day).length<=so.length
 |[]=>vT _
 |c::so=>by
  unfold c6;rw[flatMap_cons,uY,vC];have h1:=iW M p day so;have h2:(eD M p day c).length<=1:=by
   unfold eD;split
   .simp
   .split<;>simp
  unfold c6 at h1;lia
theorem AQ (k:Str)(M:LS):fj (.str k) (.lst (M.map .str))=sO (!decide (k∈M)):=by
 simp only[fj,fz,vJ,mq];rw[if_pos ⟨rr,kh M⟩]
theorem Jw (so:List Cl)(q:so.length<=60)(M:LS)(p:Str)(day:Int):C0 [.lst (so.map ba),.lst (M.map .str),.str p,.int day]=lT ((c6 so M p day).map ba):=by
 obtain⟨ρ',e,f,rfl⟩:=fZ (tg:=dS 5) (g:=yM) (λj ρ=>∃f:OB,ρ=[sL (so.map ba),sL (M.map .str),sS p,sI day,lT ((c6 (so.take j) M p day).map ba),f]) (so.map ba)
  [sL (so.map ba),sL (M.map .str),sS p,sI day,lT [],none] ⟨none,rr⟩ (by
   rintro j d ρ hd ⟨f,rfl⟩;rw[uZ]at hd;obtain⟨c,hc,rfl⟩:=oY hd;have h:c6 (so.take (j+1)) M p day=c6 (so.take j) M p day++eD M p day c:=by
    simp_all[c6,take_add_one]
   have r:(c6 (so.take j) M p day).length<=60:=vR (iW M p day _) (by rw[length_take];lia);let U:DL.Env:=[sL (so.map ba),sL (M.map .str),sS p,sI day,lT ((c6 (so.take j) M p day).map ba),some (ba c,false)];have i:jw 5 0 U=sS c.o:=aP (ba c) (.int 0) rr rr (Wp c);have k:jw 5 1 U=sS c.p:=aP (ba c) (.int 1) rr rr (SA c);have q2:jw 5 2 U=sI c.s:=aP (ba c) (.int 2) rr rr (Z0 c);have l:jw 5 4 U=sI c.n:=aP (ba c) (.int 4) rr rr (Z1 c);have O:iD (bD (f2 fj (jw 5 0) (am 1))) (iD (bD (f2 xT (jw 5 1) (am 2))) (jm (iD (bD (fA ge (fV 5 (fV 3 av)))) (bD (f2 Ss (jw 5 2) (am 3)))))) U=some (!decide (c.o∈M) || (!decide (c.p=p) || !(gu c day || decide (day<c.s)))):=
    bx (bZ (aP (.str c.o) (.lst (M.map .str)) i rr (AQ _ _))) λ_=>bx (bZ (aP (.str c.p) (.str p) k rr V9)) λ_=>be (bx (bZ (a0 [ba c,.int day] rr (rg c day))) λ_=>bZ (aP (.int c.s) (.int day) q2 rr V9))
   by_cases h1:(!decide (c.o∈M) || (!decide (c.p=p) || !(gu c day || decide (day<c.s))))=true
   .have a:eD M p day c=[c]:=by unfold eD;rw[if_pos h1]
    rw[h1]at O;refine⟨_,_,rr,.inl (kx O (iL (ds:=(c6 (so.take j) M p day).map ba) (d:=ba c) (b:=false) rr rr (mr c) (bA Y9))),some (ba c,false),?_⟩;rw[h,a,uV];rfl
   .rw[Bool.not_eq_true]at h1;rw[h1]at O;by_cases h2:c.s<day
    .have a:eD M p day c=[⟨c.o,p,c.s,some day,c.n⟩]:=by unfold eD;rw[if_neg (by rw[h1];decide),if_pos h2]
     refine⟨_,_,rr,.inl (gL O (kx (bZ (aP (.int c.s) (.int day) q2 rr (by simp[h2]))) (iL (ds:=(c6 (so.take j) M p day).map ba) (d:=ba ⟨c.o,p,c.s,some day,c.n⟩) (b:=false) rr (a0 [.str c.o,.str p,.int c.s,.int day,.int c.n] (a9 i (aV rr (a9 q2 (aV rr (a9 l rr))))) (aW _ V9)) (mr _) (bA Y9)))),some (ba c,false),?_⟩;rw[h,a,uV];rfl
    .have a:eD M p day c=[]:=by unfold eD;rw[if_neg (by rw[h1];decide),if_neg h2]
     refine⟨_,_,rr,.inl (gL O (gL (bZ (aP (.int c.s) (.int day) q2 rr Y9)) rr)),some (ba c,false),?_⟩;rw[h,a,uP];rfl)
 have m:cB (dS 5) yM (so.map ba) [sL (so.map ba),sL (M.map .str),sS p,sI day,lT [],none]=some (.nx [sL (so.map ba),sL (M.map .str),sS p,sI day,lT ((c6 so M p day).map ba),f]):=by
  simp_all
 exact ah rr (b9 (ds:=[]) T9 rr (bv (cG (ds:=so.map ba) (by simp[fN]) m) (gD rr)))
theorem Vc (ho:ay [r,.str "office"]=sS o)(hp:ay [r,.str "person"]=sS p)(s:Int)(n:Nat):jA [r,.int s,.int n]=some (ba ⟨o,p,s,none,n⟩,false):=
 ah rr (ak (a0 _ (a9 (a0 _ rr ho) (a9 (a0 _ rr hp) rr)) (aW _ V9)))
def CO (so:List Cl)(p:Str)(day:Int):LS:=kI (dU ((so.filter λc=>decide (c.p=p) && gu c day).map (·.o)))
theorem wU (g:eZ aa)(ae:Int)(so:List Cl)(r:so.length<=60)(hx:x∈aj aa ae)(e:x.1=row a ("death" : Str) [.int d,.str p]):
  o9 [.tup aa,.int ae,.lst (so.map ba),.dt [] [],.int x.2]=lT []:=by
 have ha:=(c9 g hx).1;have M:ay [x.1,.str "person"]=sS p:=by rw[e];exact bf (i:=1) bX rr
 have O:bj [x.1]=sI d:=by rw[e];rfl
 obtain⟨ρ',h,b,U,rfl⟩:=fZ (tg:=dS 8) (g:=wI) (λj ρ=>∃b U:OB,ρ=[sT aa,sI ae,sL (so.map ba),sF (.dt [] []),sI x.2,sS p,sI d,lT [],b,U]) ((CO so p d).map .str)
  _ ⟨none,none,rr⟩ (by
   rintro j dd ρ hd ⟨b,U,rfl⟩;rw[uZ]at hd;obtain⟨o,ho,rfl⟩:=oY hd;have k:Hk (am 3) (fV 8 (fV 5 av)) [sT aa,sI ae,sL (so.map ba),sF (.dt [] []),sI x.2,sS p,sI d,lT [],sS o,U]=sF .non:=by
    simp[jY,sizeLine,eU]
   exact⟨_,_,rr,.inl (gA .non k rr (gL (ce (p:=false) (q:=false) (bZ V9) V9) rr)),_,_,rr⟩)
 have l:∀ρ:DL.Env,ρ[2]? = some (sL (so.map ba))->ρ[5]? = some (sS p)->ρ[6]? = some (sI d)->cb (f1 lP (fw (cb (am 2)) 1 [5,6] (dS 0) _ (jw 0 0))) ρ=some ((CO so p d).map .str):=λρ q2 m n=>by
  have hc:=dH (fi:=cb (am 2)) (nT:=1) (cap:=[5,6]) (tg:=dS 0) (c:=ft (bD (f2 je (jw 0 1) (am 1))) (bD (fA ge (fV 0 (fV 2 av))))) (fe:=jw 0 0) (ρ:=ρ) so ba (λc=>decide (c.p=p) && gu c d) (λc=>.str c.o) (by simp[q2]) N9 λc hc=>
   ⟨_,rr,ce (bZ (aP (.str c.p) (.str p) (aP (ba c) (.int 1) (by simp[cm]) rr (SA c)) (by simp[cm,m]) V9)) λ_=>bZ (a0 [ba c,.int d] (by simp[cm,n]) (rg c d)),λ_=>⟨false,aP (ba c) (.int 0) (by simp[cm]) rr (Wp c)⟩⟩
  have e2:(so.filter λc=>decide (c.p=p) && gu c d).map (λc=>D.str c.o)=((so.filter λc=>decide (c.p=p) && gu c d).map (·.o)).map .str:=by rw[uO];rfl
  rw[e2]at hc;show(f1 lP _ ρ).bind _=_;unfold f1;rw[hc,vJ];have f:((so.filter λc=>decide (c.p=p) && gu c d).map (·.o)).length<64:=by rw[vH];exact lt_of_le_of_lt (vM _ _) N9
  show((eQ _).bind _).bind _=_;rw[r6,vJ,if_pos f];rfl
 refine ah rr (gA (.str p) (a0 [x.1,.str "person"] (by simp[ha]) M) rr (gA (.int d) (a0 [x.1] (by simp[ha]) O) rr (b9 (ds:=[]) T9 rr (bv (ρ':=[sT aa,sI ae,sL (so.map ba),sF (.dt [] []),sI x.2,sS p,sI d,lT [],b,U]) ?_ (gD rr)))));exact cG (l _ rr rr rr) h
theorem Jx (g:eZ aa)(ae:Int)(so:List Cl)(O:so.length<=60)(hx:x∈aj aa ae)(e:x.1=row a ("death" : Str) [.int d,.str p]):
  kO [.tup aa,.int ae,.lst (so.map ba),.dt [] [],.int x.2]=lT ((c6 so (so.map Cl.o) p d).map ba):=by
 have ha:=(c9 g hx).1;have M:ay [x.1,.str "person"]=sS p:=by rw[e];exact bf (i:=1) bX rr
 have U:bj [x.1]=sI d:=by rw[e];rfl
 have h1:=f8 (fi:=cb (am 2)) (nT:=1) (cap:=[]) (tg:=dS 0) (fe:=jw 0 0) (ρ:=[sT aa,sI ae,sL (so.map ba),sF (.dt [] []),sI x.2,none,none]) so ba _ V9 N9 λc hc=>⟨_,rr,false,aP (ba c) (.int 0) (by simp[cm]) rr (Wp c)⟩;have e2:so.map (λc=>D.str c.o)=(so.map Cl.o).map .str:=by rw[uO];rfl
 rw[e2]at h1;have b:=iW (so.map Cl.o) p d so;refine ah rr (b9 h1 (bo _) (b9 (a0 _ (aV rr (aV rr (aV (a0 _ (by simp[ha]) M) (aV (a0 [x.1] (by simp[ha]) U) rr)))) (Jw so O _ p d)) (ms _) (ak ?_)));refine eW rr (a0 _ rr (wU g ae so O hx e)) ?_;show(if((c6 so _ p d).map ba).length+([]:LD).length<=sizeLine then some _ else none)=_;rw[if_pos (bg (by grind)),uP]
def oM (K:KL)(so:List Cl)(x:D×Nat):List Cl:=
 if dQ K x=true then
  if kindOf x.1 = "named" then so++[⟨aM 1 x.1,aM 2 x.1,aO x.1,none,x.2⟩]
  else c6 so (so.map Cl.o) (aM 1 x.1) (aO x.1)
 else so
def cD (K:KL):KL:=cL (λx=>bV (kA x)) (K.filter λx=>!aJ x.1)
noncomputable def oN (K:KL)(l:KL):List Cl:=l.foldl (oM K) []
noncomputable def kC (c:Cl):List At:=[.s c.o,.i c.s,.i c.n]
def aX (K:KL):List Cl:=cL (λc=>bV (kC c)) (oN K (cD K))
structure EW (l:KL)(so:List Cl):Prop where
 len:so.length<=l.length
 nod:(so.map λc=>(c.o,c.n)).Nodup
 num:∀c∈so,c.n∈l.map (·.2)
theorem nR (M:LS)(p:Str)(day:Int):∀so:List Cl,((c6 so M p day).map λc=>(c.o,c.n)).Sublist (so.map λc=>(c.o,c.n))
 |[]=>List.Sublist.slnil
 |c::so=>by
  have O:=nR M p day so;unfold c6 at O |-;rw[flatMap_cons,uV];have:((eD M p day c).map λc=>(c.o,c.n))=[(c.o,c.n)]\/((eD M p day c).map λc=>(c.o,c.n))=[]:=by
   unfold eD;split
   .exact .inl rr
   .split
    .exact .inl rr
    .exact .inr rr
  rcases this with h|h
  .rw[h];exact O.cons₂ _
  .rw[h];exact O.cons _
theorem E5 (h:c∈c6 so O p day):∃M∈so,M.o=c.o/\M.n=c.n:=by
 have:=(nR _ p _ so).subset (uR ⟨c,h,rr⟩);simp_all
theorem EW.step {K l:KL}{so:List Cl}(h:EW l so){x:D×Nat}(hx:x.2∉l.map (·.2)):EW (l++[x]) (oM K so x):=by
 have M:∀ {n:Nat},n∈l.map (·.2)->n∈(l++[x]).map (·.2):=λh=>by grind
 have U:x.2∈(l++[x]).map (·.2):=V9
 have f:(l++[x]).length=l.length+1:=V9
 have O:=h.len;unfold oM;split
 .split
  .refine⟨Y9,?_,λc hc=>?_⟩
   .rw[uV,nodup_append];refine⟨h.nod,V9,λa ha b hb e=>?_⟩;obtain⟨c,hc,rfl⟩:=vO ha;simp at hb;subst hb;injection e with _ e2;exact hx (e2 ▸ h.num c hc)
   .rcases mem_append.mp hc with hc|hc
    .exact M (h.num c hc)
    .rw[uS hc];exact U
  .have hl:=iW (so.map Cl.o) (aM 1 x.1) (aO x.1) so;refine⟨N9,h.nod.sublist (nR _ _ _ _),λc hc=>?_⟩;obtain⟨d,h1,_,h3⟩:=E5 hc;rw[<-h3];exact M (h.num d h1)
 .exact⟨N9,h.nod,λc hc=>M (h.num c hc)⟩
theorem XC (a b:Cl):(aR (kC a) (kC b)).isSome=true:=by
 unfold kC;rw[aR];split
 .rw[aR];split
  .rw[aR];split
   .rfl
   .rfl
  .rfl
 .rfl
theorem CP (cs:List Cl):cr (cs.map kC)=true:=by
 simp_all[cr,XC]
theorem ul {α M:Type}(f:α->M):∀ {l:List α},(l.map f).Nodup->∀ {a b:α},a∈l->b∈l->f a=f b->a=b
 |[],_,_,_,ha,_,_=>by cases ha
 |c::l,h,a,b,ha,hb,e=>by
  rw[uX,nodup_cons]at h;rcases vP ha with O|ha1
  .grind
  .rcases vP hb with U|hb1
   .simp_all
   .exact ul f h.2 ha1 hb1 e
theorem Rm {cs:List Cl}{a b:Cl}(ha:a∈cs)(hb:b∈cs)(e:bV (kC a)=bV (kC b)):(a.o,a.n)=(b.o,b.n):=by
 have h:=jW (CP cs) (uR ⟨a,ha,rr⟩) (uR ⟨b,hb,rr⟩) e;injection h with h1 h2;grind
theorem ME (g:eZ aa)(ae:Int)(so:List Cl)(l:so.length<=60)(hx:x∈aj aa ae)(c:aJ x.1=false)(f:OB):
  ∃h,(nE [sT aa,sI ae,lT (so.map ba),some (.dt [] [],true),sI x.2,f]=some (.nx [sT aa,sI ae,lT ((oM (aj aa ae) so x).map ba),some (.dt [] [],true),sI x.2,h])
   \/ nE [sT aa,sI ae,lT (so.map ba),some (.dt [] [],true),sI x.2,f]=some (.ct [sT aa,sI ae,lT ((oM (aj aa ae) so x).map ba),some (.dt [] [],true),sI x.2,h])):=by
 obtain⟨ha,b⟩:=c9 g hx;have hf:aI x.1=true:=b.rp.flat;have m:=E4 g ae so hx c;obtain⟨E,j⟩:∃E:DL.Env,E=[sT aa,sI ae,lT (so.map ba),some (.dt [] [],true),sI x.2,some (x.1,false)]:=⟨_,rr⟩;have M:jm (bD (fA qU (fV 0 (fV 1 (fV 2 (fV 4 av)))))) E=some (!dQ (aj aa ae) x):=by
  simp_all
 have hw:fA aS (fV 5 av) E=sS (kindOf x.1):=by rw[j];exact a0 [x.1] rr (gp b)
 refine⟨some (x.1,false),?_⟩;unfold oM;subst j;cases hc:dQ (aj aa ae) x with
 |false=>
  rw[hc]at M;exact .inr (gA x.1 (by simp[ha]) hf (XB (kx M rr)))
 |true=>
  rw[hc]at M;left;rw[if_pos rr];refine gA x.1 (by simp[ha]) hf (bv (gL M rr) ?_);by_cases hn:kindOf x.1 = "named"
  .rw[if_pos hn];refine kx (bB (bb:=false) hw (xw hn)) ?_;have O:ay [x.1,.str "office"]=sS (aM 1 x.1)/\ay [x.1,.str "person"]=sS (aM 2 x.1):=by
    obtain⟨a,k,ag,e,d⟩:=b;rw[e]at hn |-;replace hn:k = "named":=hn;cases d with
    |named d o p=>exact⟨bf (i:=1) bX rr,bf (i:=2) bX rr⟩
    |root=>exact gP hn
    |three _ hk=>rcases hk with rfl|rfl|rfl<;>exact gP hn
    |other _ hk=>rcases hk with rfl|rfl|rfl|rfl|rfl<;>exact gP hn
   have U:bj [x.1]=sI (aO x.1):=by simp_all[ug,wO]
   have e2:f2 dZ (am 2) (fA fy (ao (fA jA (fV 5 (ao (fA bj (fV 5 av)) (fV 4 av)))) av)) [sT aa,sI ae,lT (so.map ba),some (.dt [] [],true),sI x.2,some (x.1,false)]=lT (so.map ba++[ba ⟨aM 1 x.1,aM 2 x.1,aO x.1,none,x.2⟩]):=by
    refine eW (x:=.lst (so.map ba)) (y:=.lst _) (b1:=false) (b2:=true) rr ?_ (if_pos (bg (by rw[vH,length_singleton];lia)));exact a0 _ (a9 (a0 [x.1,.int (aO x.1),.int x.2] (aV rr (aV (a0 [x.1] rr U) rr)) (Vc O.1 O.2 _ _)) rr) (cz _ V9)
   have:=Cm (i:=2) e2 (by have hq:=ms (so++[(⟨aM 1 x.1,aM 2 x.1,aO x.1,none,x.2⟩:Cl)]);rwa [uV]at hq);rw[uV];exact this
  .rw[if_neg hn];have hd:kindOf x.1 = "death":=by
    unfold dQ at hc;by_cases hd:kindOf x.1 = "death"
    .exact hd
    .rw[if_neg hd,if_neg hn]at hc;cases hc
   refine gL (bB (bb:=false) hw (ES hn)) (gL (bB (bb:=false) hw (ES (by rw[hd];decide +kernel))) (gL (bB (bb:=false) hw (ES (by rw[hd];decide +kernel))) (Cm (i:=2) (a0 [.tup aa,.int ae,.lst (so.map ba),.dt [] [],.int x.2] V9 ?_) (ms _))));obtain⟨a,k,ag,e,d⟩:=b;have hk:k = "death":=by rw[e]at hd;exact hd
   subst hk;obtain⟨dd,p,rfl⟩:=d.deed.three H9;have:=Jx g ae so l hx e;rw[this,e];rfl
theorem CQ (K:KL):∀(l M:KL)(so:List Cl),EW M so->((M++l).map (·.2)).Nodup->EW (M++l) (l.foldl (oM K) so)
 |[],M,so,h,_=>by rw[uP];exact h
 |x::l,M,so,h,hn=>by
  have hx:x.2∉M.map (·.2):=λhm=>by
   grind
  have h':=h.step (K:=K) hx;have e:M++x::l=(M++[x])++l:=V9
  rw[e]at hn |-;exact CQ K l _ _ h' hn
theorem CS (K l:KL)(h:(l.map (·.2)).Nodup):EW l (oN K l):=CQ K l [] [] ⟨uM _,V9,V9⟩ h
theorem nU (h:(K.map (·.2)).Nodup):((cD K).map (·.2)).Nodup:=((aC _ _).map _).nodup_iff.mpr (List.Nodup.sublist (List.Sublist.map _ filter_sublist) h)
theorem E6 {aa:LD}(g:eZ aa)(ae:Int)(r:(cD (aj aa ae)).length<=60):yN [.tup aa,.int ae]=lT ((aX (aj aa ae)).map ba)/\(aX (aj aa ae)).length<=60:=by
 have l:eA [.tup aa,.int ae]=lT ((cD (aj aa ae)).map λx=>.int x.2):=oG g ae;generalize m:aj aa ae=K at r l |-;have t:∀x∈cD K,x∈K/\aJ x.1=false:=λx hx=>by
  obtain⟨h1,h2⟩:=vN ((aC _ _).mem_iff.mp hx);simp_all
 have q:((cD K).map (·.2)).Nodup:=nU (by grind[dP]);obtain⟨ρ',e,k,i,rfl⟩:=fZ (tg:=dS 4) (g:=nE) (λj ρ=>∃k i:OB,ρ=[sT aa,sI ae,lT ((oN K ((cD K).take j)).map ba),some (.dt [] [],true),k,i]) ((cD K).map λx=>.int x.2)
  _ ⟨none,none,rr⟩ (by
   rintro j d ρ hd ⟨k,i,rfl⟩;rw[uZ]at hd;obtain⟨x,hx,rfl⟩:=oY hd;have F:(cD K).take (j+1)=(cD K).take j++[x]:=by rw[take_add_one,hx];rfl
   have u:oN K ((cD K).take (j+1))=oM K (oN K ((cD K).take j)) x:=by simp_all[oN]
   obtain⟨v,w⟩:=t x (vL hx);have h:=(CS K ((cD K).take j) (List.Nodup.sublist (List.Sublist.map _ (take_sublist _ _)) q)).len;rw[length_take]at h;have M:=ME g ae (oN K ((cD K).take j)) N9 (x:=x) (by rw[m];exact v) w i;rw[m]at M;obtain⟨z,M⟩:=M;exact⟨_,_,rr,M,sI x.2,z,by rw[u]⟩)
 have A:(cD K).take ((cD K).map λx=>D.int x.2).length=cD K:=V9
 rw[A]at e;have O:=CS K (cD K) q;generalize B:(oN K (cD K))=st at e O;have C:st.length<=60:=by have:=O.len;lia
 have f:aX K=cL (λc=>bV (kC c)) st:=by unfold aX;rw[B]
 have hm:∀ρ:DL.Env,ju (Ed o7 ρ) (st.map ba)=some _:=λρ=>gn st λc _=>by
  rfl
 have hk:da (st.map λc=>D.tup [.str c.o,.int c.s,.int c.n])=some (st.map kC):=fG st λc _=>rr;have U:(st.map kC).length<64/\cr (st.map kC)=true/\c7 (st.map kC)=true/\((st.map kC).map bV).Nodup:=by
  refine⟨by rw[vH];lia,CP _,?_,?_⟩
  .simp_all[c7,kC]
  .rw[uO];have h1:st.Pairwise λa b=>(a.o,a.n)≠(b.o,b.n):=pairwise_map.mp O.nod;have h2:st.Pairwise λa b=>bV (kC a)≠bV (kC b):=by
    refine List.Pairwise.imp_of_mem ?_ h1;intro a b ha hb E e;exact E (Rm ha hb e)
   exact pairwise_map.mpr h2
 have hz:(st.map kC).zip (st.map ba)=st.map λc=>(kC c,ba c):=by rw[zip_map']
 have key:((aX K).map λc=>(kC c,ba c))=cL (λp:List At×D=>bV p.1) (st.map λc=>(kC c,ba c)):=by
  rw[f];refine gZ _ (λx hx y hy e=>?_) ((aC _ _).map _) ?_
  .grind[ul]
  .exact pairwise_map.mpr (dn _ _)
 refine⟨ah rr (b9 (ds:=[]) T9 rr (bv rr (bv (cG (ds:=(cD K).map λx=>.int x.2) ?_ e) (ak ?_)))),by rw[f,(aC _ _).length_eq];exact C⟩
 .show(fA eA (fV 0 (fV 1 av)) _).bind _=_;rw[a0 [.tup aa,.int ae] rr l];rfl
 .unfold wu;show((some (D.lst (st.map ba),false)).bind _)=_;simp only[vJ];rw[hm];simp only[vJ];rw[hk];simp only[vJ];rw[if_pos U];unfold hU;rw[hz,<-key,uO];rfl
end Lw
namespace Lw
open PySem PySem.Spec DL L2
noncomputable def fH (x:Int×OI):D:=.tup [.int x.1,uD x.2]
theorem iz (x:Int×OI):aI (fH x)=true:=by simp[fH,CL]
theorem um (x:Int×OI):aH 5 (fH x)=true:=by obtain⟨s,u⟩:=x;cases u<;>simp[fH,uD]
theorem Rn {zs:LS}{i:Int}(h1 : -(zs.length:Int)<=i)(h2:i<zs.length):∃z∈zs,eG (.lst (zs.map .str)) (.int i)=sS z:=by
 obtain⟨j,hj,hl⟩:∃j,EZ (zs.map D.str).length i=some j/\j<zs.length:=by
  unfold EZ;rw[vH];by_cases h0:0<=i
  .simp_all
  .rw[if_neg h0,if_pos N9];lia
 simp_all[l5]
noncomputable def MR:LN:=[7,255,3,15]
noncomputable def MS:LN:=[1,2,3,4,5,7,128,255]
inductive Dd:Str->List D->Prop
 |root (o r:Str) (m:Nat) (hm:m∈MR) (f:Int):Dd ("root" : Str) [.str o,.int m,.int f,.str r]
 |named (d:Int) (o p:Str):Dd ("named" : Str) [.int d,.str o,.str p]
 |three (k:Str) (hk:k = "death" \/ k = "lost" \/ k = "found") (d:Int) (p:Str):Dd k [.int d,.str p]
 |leave (d:Int) (b p:Str) (m:Nat) (hm:m∈MS) (x:Int×Option Int) (f:Int):Dd ("leave" : Str) [.int d,.str b,.str p,.int m,fH x,.int f]
 |paper (k:Str) (hk:k = "paper" \/ k = "like") (d:Int) (b:Str) (m:Nat) (hm:m∈MS) (x:Int×Option Int) (r:List D) (hf:aQ r=true) (hp:r.all (aH 5)=true):Dd k (.int d::.str b::.int m::fH x::r)
 |copy (k:Str) (hk:k = "copy" \/ k = "call") (d:Int) (b:Str) (n:Nat):Dd k [.int d,.str b,.int n]
theorem Dd.cd (h:Dd k r):Cd k r:=by
 cases h with
 |root o r m hm f=>exact .root _ _ _ _
 |named d o p=>exact .named _ _ _
 |three k hk d p=>exact .three _ hk _ _
 |leave d b p m hm x f=>exact .other _ (.inl rr) _ _ _ (by simp[iz]) (by simp_all[um])
 |paper k hk d b m hm x r hf hp=>exact .other _ (hk.elim (λh=>.inr (.inl h)) λh=>.inr (.inr (.inl h))) _ _ _ (by simp[hf,iz]) (by simp_all[um])
 |copy k hk d b n=>exact .other _ (hk.elim (λh=>.inr (.inr (.inr (.inl h)))) λh=>.inr (.inr (.inr (.inr h)))) _ _ _ rr V9
theorem Dd.flat (h:Dd k r):aQ r=true:=h.cd.deed.flat
def b7 (r:D):Prop:=∃h k ag,r=row h k ag/\Dd k ag
theorem b7.c (g:b7 r):wN r:=by obtain⟨h,k,ag,e,d⟩:=g;exact⟨h,k,ag,e,d.cd⟩
theorem b7.flat (g:b7 r):aI r=true:=g.c.rp.flat
noncomputable def Ot (aa:LD):LS:=(aa.filter aJ).map (aM 0)
theorem uo (a b:Nat):jB [.int a,.int b]=sO (decide (a &&& b=b)):=by
 have:Builtin.bitAnd (a:Int) (b:Int)=((a &&& b:Nat):Int):=by simp[Builtin.bitAnd]
 simp[jB,this];lia
def ky (r:D):Nat:=(if kindOf r = "root" then gy 1 r else if kindOf r = "leave" then gy 3 r else gy 2 r).toNat
theorem iA (a:Int)(k:Str)(ag:LD):kindOf (row a k ag)=k:=rfl
noncomputable def dA:LS:=[("leave" : Str),"paper","like"]
theorem rE (g:b7 r)(h:aJ r=true):∃a o rl,∃m:Nat,∃f:Int,r=row a ("root" : Str) [.str o,.int m,.int f,.str rl]/\m∈MR/\ky r=m:=by
 obtain⟨a,k,ag,rfl,d⟩:=g;have hk:k = "root":=ET h;clear h;cases d with
 |root o rl m hm f=>exact⟨a,o,rl,m,f,rr,hm,I9⟩
 |named=>exact gP hk
 |three k M=>rcases M with rfl|rfl|rfl<;>exact gP hk
 |leave=>exact gP hk
 |paper k M=>rcases M with rfl|rfl<;>exact gP hk
 |copy k M=>rcases M with rfl|rfl<;>exact gP hk
theorem CT (g:b7 r)(h:aJ r=true):ay [r,.str "matters"]=sI (ky r):=by
 obtain⟨a,o,rl,m,f,rfl,_,e⟩:=rE g h;rfl
theorem Ro {a:Int}{k:Str}{ag:LD}(d:Dd k ag)(h:k∈dA):ky (row a k ag)∈MS/\(∃i:Nat,lh bI (.str k) (.str "matters")=sI i/\ag[i]? = some (.int (ky (row a k ag))))/\(D.str k::ag).getD (3+if k = "leave" then 1 else 0) .non=.int (ky (row a k ag))/\(3+if k = "leave" then 1 else 0)<(D.str k::ag).length:=by
 cases d with
 |leave d b p m hm x f=>
  have e:ky (row a ("leave" : Str) [.int d,.str b,.str p,.int m,fH x,.int f])=m:=I9
  refine⟨hm,⟨3,bX,rr⟩,?_,?_⟩
  .rfl
  simp
 |paper k hk d b m hm x r hf hp=>
  have hl:k ≠ "leave":=by rcases hk with rfl|rfl<;>decide +kernel
  have hr:k ≠ "root":=by rcases hk with rfl|rfl<;>decide +kernel
  have e:ky (row a k (.int d::.str b::.int m::fH x::r))=m:=by unfold ky;rw[iA,if_neg hr,if_neg hl];rfl
  rw[e];refine⟨hm,⟨2,by rcases hk with rfl|rfl<;>exact bX,rr⟩,?_,?_⟩
  .rw[if_neg hl];rfl
  simp_all
 |root=>exact gP h
 |named=>exact gP h
 |three k M=>rcases M with rfl|rfl|rfl<;>exact gP h
 |copy k M=>rcases M with rfl|rfl<;>exact gP h
theorem wV (g:b7 r)(h:kindOf r∈dA):ay [r,.str "matters"]=sI (ky r):=by
 obtain⟨a,k,ag,rfl,d⟩:=g;obtain⟨_,⟨i,h1,h2⟩,_⟩:=Ro d h;exact bf h1 h2
noncomputable def bp:LS:=[("leave" : Str),"paper","like","copy"]
theorem iX (h:k∈bp\/k = "call"):cN k=true:=by
 grind[rf,bp,yS]
theorem MF {k:Str}{ag:LD}(d:Dd k ag)(h:cN k=true):∃(dd:Int)(b:Str)(r:LD),ag=.int dd::.str b::r:=d.cd.deed.slg h
theorem CU (g:b7 r)(h:cN (kindOf r)=true):ay [r,.str "by"]=sS (cU r):=by
 obtain⟨a,k,ag,rfl,d⟩:=g;obtain⟨dd,b,q,rfl⟩:=MF d h;exact bf (Jq h) rr
noncomputable def bw (K:KL):LD:=(K.filter λx=>aJ x.1).map (·.1)
theorem yX:∀(l:List (di×D))(a:LK×LD),(a.1++l.map (·.1)).Nodup->l.foldl qy a=(a.1++l.map (·.1),a.2++l.map (·.2))
 |[],a,_=>by simp
 |p::l,a,h=>by
  have hn:p.1∉a.1:=by
   grind
  have e:qy a p=(a.1++[p.1],a.2++[p.2]):=by simp_all[qy,f6,dc]
  rw[foldl_cons,e,yX l _ (by rw[append_assoc];exact h)];simp
section
variable {K:KL}(hn:((bw K).map (aM 0)).Nodup)
include hn
theorem rF:bN (rA K)=((bw K).map λv=>(.inr (aM 0 v):di),bw K):=by
 have e:rA K=(bw K).map λv=>((.inr (aM 0 v):di),v):=by unfold rA bw;rw[uO];rfl
 have M:((bw K).map λv=>(.inr (aM 0 v):di)).Nodup:=by
  refine pairwise_map.mpr ((pairwise_map.mp hn).imp λh z=>h (Sum.inr.inj z))
 rw[e];unfold bN;rw[yX _ _ (by rw[uO];exact M),uO,uO];congr 1;exact map_id _
end
noncomputable def MG (j:Nat):D->Int×OI
 |.tup [_,.tup (_::ag)]=>match ag[j]? with
  |some (.tup [.int s,.int u])=>(s,some u)
  |some (.tup [.int s,.non])=>(s,none)
  |_=>(0,none)
 |_=>(0,none)
theorem mw {h:Int}{k:Str}{ag:LD}{j:Nat}{x:Int×OI}(e:ag[j]? = some (fH x)):MG j (row h k ag)=x:=by
 unfold MG row;dsimp only;rw[e];obtain⟨s,u⟩:=x;cases u<;>rfl
def dh (r:D):Int×OI:=if kindOf r = "leave" then MG 4 r else MG 3 r
def oP (r:D):Int:=if kindOf r = "root" then gy 2 r else gy 5 r
def mz (r:D):Bool:=decide (kindOf r = "leave")
theorem oQ {r:D}(g:b7 r)(h:kindOf r = "leave"):∃a d b p,∃m:Nat,∃x f,r=row a ("leave" : Str) [.int d,.str b,.str p,.int m,fH x,.int f]/\m∈MS/\ky r=m/\dh r=x/\oP r=f:=by
 obtain⟨a,k,ag,rfl,d⟩:=g;have hk:k = "leave":=h;clear h;cases d with
 |leave d b p m hm x f=>exact⟨a,d,b,p,m,x,f,rr,hm,I9,by unfold dh;rw[iA,if_pos rr];exact mw rr,I9⟩
 |root=>exact gP hk
 |named=>exact gP hk
 |three k M=>rcases M with rfl|rfl|rfl<;>exact gP hk
 |paper k M=>rcases M with rfl|rfl<;>exact gP hk
 |copy k M=>rcases M with rfl|rfl<;>exact gP hk
theorem MH {a:Int}{k:Str}{ag:LD}(d:Dd k ag)(h:k∈dA):(∃i:Nat,lh bI (.str k) (.str "stretch")=sI i/\ag[i]? = some (fH (dh (row a k ag))))/\(D.str k::ag).getD (4+if k = "leave" then 1 else 0) .non=fH (dh (row a k ag))/\(4+if k = "leave" then 1 else 0)<(D.str k::ag).length:=by
 cases d with
 |leave d b p m hm x f=>
  have e:dh (row a ("leave" : Str) [.int d,.str b,.str p,.int m,fH x,.int f])=x:=by unfold dh;rw[iA,if_pos rr];exact mw rr
  rw[e];exact⟨⟨4,bX,rr⟩,rr,V9⟩
 |paper k hk d b m hm x r hf hp=>
  have hl:k ≠ "leave":=by rcases hk with rfl|rfl<;>decide +kernel
  have e:dh (row a k (.int d::.str b::.int m::fH x::r))=x:=by unfold dh;rw[iA,if_neg hl];exact mw rr
  rw[e,if_neg hl];exact⟨⟨3,by rcases hk with rfl|rfl<;>exact bX,rr⟩,rr,V9⟩
 |root=>exact gP h
 |named=>exact gP h
 |three k M=>rcases M with rfl|rfl|rfl<;>exact gP h
 |copy k M=>rcases M with rfl|rfl<;>exact gP h
theorem CV (g:b7 r)(h:kindOf r∈dA):ay [r,.str "stretch"]=some (fH (dh r),false):=by
 obtain⟨a,k,ag,rfl,d⟩:=g;obtain⟨⟨i,h1,h2⟩,_⟩:=MH d h;exact bf h1 h2
theorem wW (h:kindOf r = "leave"):kindOf r∈dA:=by rw[h];decide +kernel
theorem Ou (g:b7 r)(h:aJ r=true\/kindOf r = "leave"):ay [r,.str "further"]=sI (oP r):=by
 rcases h with h|h
 .obtain⟨a,o,rl,m,f,rfl,_,_⟩:=rE g h;rfl
 .obtain⟨a,d,b,p,m,x,f,e,_,_,_,M⟩:=oQ g h;rw[e];rfl
def rG (r v:D):Bool:=decide (ky v &&& ky r=ky r) && !(mz r && decide (oP v<=oP r))
def nV (r v:D):D:=if decide (ky v &&& ky r=ky r)=true then (if(mz r && decide (oP v<=oP r))=true then .str "further" else .non)else .str "matters"
theorem yY (U:b7 r)(b:b7 v)(i:kindOf r∈dA)(kv:aJ v=true\/kindOf v = "leave"):∃d,oB [r,v]=some (d,false)/\Su d .non=sO (rG r v)/\d=nV r v:=by
 have e:=kv.elim (CT b) λh=>wV b (wW h);have f:bD (fA jB (ao (fA ay (fV 1 (ao (fS "matters") av))) (ao (fA ay (fV 0 (ao (fS "matters") av))) av))) [some (r,false),some (v,false)]=some _:=bZ (a0 _ (a9 (a0 _ rr e) (a9 (a0 _ rr (wV U i)) rr)) (uo _ _));have j:bD (f2 je (fA aS (fV 0 av)) (fS "leave")) [some (r,false),some (v,false)]=some (mz r):=bB (a:=kindOf r) (bb:=false) (a0 [r] rr (gp U.c)) rr;have k:mz r=true->bD (f2 Zl (fA ay (fV 0 (ao (fS "further") av))) (fA ay (fV 1 (ao (fS "further") av)))) [some (r,false),some (v,false)]=some _:=λh=>bZ (aP _ _ (a0 _ rr (Ou U (.inr (ET h)))) (a0 _ rr (Ou b kv)) rr);have g:=ce j k;unfold rG;cases M:decide (ky v &&& ky r=ky r) with
 |false=>exact⟨.str "matters",ah rr (aU (be (p:=false) (f.trans (by rw[M]))) (ak rr)),rr,by simp only[nV,M];rfl⟩
 |true=>
  cases O:(mz r && decide (oP v<=oP r)) with
  |true=>exact⟨.str "further",ah rr (aw (be (p:=true) (f.trans (by rw[M]))) (aU (g.trans (by rw[O])) (ak rr))),rr,by simp only[nV,M,O];rfl⟩
  |false=>exact⟨.non,ah rr (aw (be (p:=true) (f.trans (by rw[M]))) (aw (g.trans (by rw[O])) (ak rr))),rr,by simp only[nV,M,O];rfl⟩
theorem rH (h:k∈dA):k∈bp:=by
 have:∀k∈dA,k∈bp:=H9
 exact this k h
theorem gF (h:kindOf r∈dA):aJ r=false:=by
 have:∀k∈dA,decide (k = "root")=false:=H9
 exact this _ h
theorem rJ (g:b7 r)(h:aJ r=false):bj [r]=sI (aO r):=by
 have:=ug g.c;simp_all[wO]
def AR (cs:List Cl)(r v:D):Bool:=jb cs (aM 0 v) (aM 3 v) (cU r) (aO r) && rG r v
def Jy (cs:List Cl)(r v:D):D:=if jb cs (aM 0 v) (aM 3 v) (cU r) (aO r)=true then nV r v else .str "holder"
theorem MI (cs:List Cl)(M:cs.length<=60)(O:b7 r)(c:b7 v)(U:kindOf r∈dA)(hv:aJ v=true):∃d,iP [.lst (cs.map ba),r,v]=some (d,false)/\Su d .non=sO (AR cs r v)/\d=Jy cs r v:=by
 obtain⟨d,g,e2,h⟩:=yY O c U (.inl hv);have e:bD (fA dL (fV 0 (fV 2 (ao (fA ay (fV 1 (ao (fS "by") av))) (ao (fA bj (fV 1 av)) av))))) [sL (cs.map ba),some (r,false),some (v,false)]=some (jb cs (aM 0 v) (aM 3 v) (cU r) (aO r)):=by
  refine bZ (a0 _ (aV rr (aV rr (a9 (a0 _ rr (CU O (iX (.inl (rH U))))) (a9 (a0 [r] rr (rJ O (gF U))) rr)))) ?_);obtain⟨a,o,rl,m,f,rfl,_,_⟩:=rE c hv;exact CN cs M _ _
 unfold AR;cases b:jb cs _ _ _ _ with
 |false=>exact⟨.str _,ah rr (aU (be (p:=false) (e.trans (by rw[b]))) (ak rr)),rr,by simp only[Jy,b];rfl⟩
 |true=>exact⟨d,ah rr (aw (be (p:=true) (e.trans (by rw[b]))) (ak (a0 [r,v] rr g))),e2,by grind[Jy]⟩
def Jz (cs:List Cl)(r v:D):Int:=match ja cs (aM 0 v) (aM 3 v) (aO r) with
 |.tup [_,_,.int n]=>n
 |_=>0
theorem J0 (h:jb cs o rl p day=true):∃n:Int,ja cs o rl day=.tup [.str "one",.str p,.int n]:=by
 unfold jb ja at h;unfold ja;generalize UZ cs o _=M at h |-;cases M with
 |nil=>
  have h:cJ (.tup [.str _]) _=true:=h;simp at h
 |cons b r=>
  rw[oJ]at h |-;split at h
  .have h:cJ (.tup [.str _,.lst _]) _=true:=h;simp_all
  .rename_i hn;rw[if_neg hn];have h:cJ (.tup [.str _,.str _]) _=true:=h;simp_all
theorem MJ (h:jb cs (aM 0 v) (aM 3 v) (cU r) (aO r)=true):ja cs (aM 0 v) (aM 3 v) (aO r)=.tup [.str "one",.str (cU r),.int (Jz cs r v)]:=by
 obtain⟨n,e⟩:=J0 h;unfold Jz;rw[e]
def Ve (cs:List Cl)(r v:D):D:=.tup [.str "office",.str (aM 0 v),.int (Jz cs r v)]
theorem rK (g:∀r∈aa,b7 r)(hv:v∈bw (aj aa ae)):b7 v/\aJ v=true:=by
 obtain⟨x,hx,rfl⟩:=vO hv;obtain⟨h1,h2⟩:=vN hx;exact⟨g _ (vL (aT h1)),h2⟩
theorem J5 (hl:aa.length<=60)(ae:Int):(bw (aj aa ae)).length<=60:=by
 grind[bw,bT]
theorem E7 {aa:LD}(g:∀r∈aa,b7 r)(hl:aa.length<=60)(ae:Int)(hn:((bw (aj aa ae)).map (aM 0)).Nodup)(cs:List Cl)(O:cs.length<=60){b:Nat}{r:D}(hr:aa[b]? = some r)(j:kindOf r∈dA):
    jC [.tup aa,.int ae,.lst (cs.map ba),.int b]=lT (((bw (aj aa ae)).filter (AR cs r)).map (Ve cs r)):=by
  have k:eZ aa:=⟨hl,λr hr=>(g r hr).c⟩;have e:=g r (vL hr);have q:=J5 hl ae;have h1:=dH (fi:=wy (fA iM (fV 0 (fV 1 av)))) (nT:=1) (cap:=[2,4]) (tg:=dS 0) (c:=bD (f2 Su (fA iP (fV 1 (fV 2 (fV 0 av)))) (fC .non))) (fe:=am 0)
    (ρ:=[sT aa,sI ae,sL (cs.map ba),sI b,some (r,false),none]) (bw (aj aa ae)) id (AR cs r) id
    (by show(fA iM _ _).bind _=_;rw[a0 [.tup aa,.int ae] rr (rC k ae),rF hn];simp) N9 λv hv=>by
      obtain⟨h,M⟩:=rK g hv;obtain⟨d,l,e2,_⟩:=MI cs O e h j M;exact⟨[some (v,false),sL (cs.map ba),some (r,false)],rr,bZ (aP d .non (a0 [.lst (cs.map ba),r,v] rr l) rr e2),λ_=>⟨false,rr⟩⟩
  rw[map_id]at h1;have n:aQ ((bw (aj aa ae)).filter (AR cs r))=true:=bL λv hv=>(rK g (vN hv).1).1.flat;refine ah rr (gA r (aP (.tup aa) (.int b) rr rr (by simp[aY hr])) e.flat (b9 h1 n (ak ?_)));refine f8 (fi:=cb (am 5)) (nT:=1) (cap:=[2,4]) (tg:=dS 0)
     _ id (Ve cs r) V9 (vR (vM _ _) N9) λv hv=>?_
  obtain⟨p,i⟩:=vN hv;obtain⟨h,M⟩:=rK g p;have U:(jb cs (aM 0 v) (aM 3 v) (cU r) (aO r) && rG r v)=true:=i;rw[vB]at U;have hh:=MJ U.1;refine⟨[some (v,false),sL (cs.map ba),some (r,false)],rr,false,?_⟩;obtain⟨a,o,rl,m,f,rfl,_,_⟩:=rE h M;refine a0 [.str "office",.str o,.int (Jz cs r _)] (aV rr (a9 (a0 _ rr oK) (aV (aP (ja cs o rl (aO r)) (.int 2) (a0 _ (aV rr (aV rr (a9 (a0 [r] rr (rJ e (gF j))) rr))) (mu cs O _)) rr ?_) rr))) (aW _ V9);have hh:ja cs o rl (aO r)=_:=hh;rw[hh];rfl
noncomputable def m4 (day:Int)(x:Int×OI):Bool:=decide (x.1<=day) && (match x.2 with|none=>true|some u=>decide (day<u))
noncomputable def Vf:OI->OI->Bool
 |_,none=>true
 |none,some _=>false
 |some x,some y=>decide (x<=y)
theorem ML (a b:OI):kP [uD a,uD b]=sO (Vf a b):=by
 cases b with
 |none=>rfl
 |some y=>
  cases a with
  |none=>rfl
  |some x=>rfl
def J6 (a b:Int×OI):Bool:=decide (b.1<=a.1) && Vf a.2 b.2
theorem Rp (a b:Int×OI):gE [fH a,fH b]=sO (J6 a b):=
 ah rr (ak (bS (b1:=false) (by simp[fH,ra]) λ_=>a0 _ (aV (by simp[fH,at1]) (aV (by simp[fH,at1]) rr)) (ML _ _)))
theorem Ov {aa:LD}{i:Nat}{r:D}(hr:aa[i]? = some r)(g:b7 r)(h:aJ r=false):gN [.tup aa,.int i]=sT [.int (aO r),.int i]:=
 ah rr (ak (a0 _ (aV (a0 _ (by simp[aY hr]) (rJ g h)) rr) T9))
theorem XD (a b c d:Int):WR (.tup [.int a,.int b]) (.tup [.int c,.int d])=sO (decide (a<c\/(a=c/\b<d))):=by
 show(aR _ _).map _=_;rw[Rh];rfl
theorem yZ {aa:LD}{i j:Nat}{x y:D}(hx:aa[i]? = some x)(hy:aa[j]? = some y)(M:b7 x)(O:b7 y)(nx:aJ x=false)(U:aJ y=false):iQ [.tup aa,.int i,.int j]=sO (kR (x,i) (y,j)):=
 ah rr (ak (aP _ _ (a0 _ rr (Ov hx M nx)) (a0 _ rr (Ov hy O U)) (XD _ _ _ _)))
def MN (r:D)(M:Nat)(x:D×Nat):Bool:=kR x (r,M) && ((m4 (aO r) (dh x.1) && J6 (dh r) (dh x.1)) && rG r x.1)
def CW (r:D)(M:Nat)(x:D×Nat):D:=if kR x (r,M)=true then (if(m4 (aO r) (dh x.1) && J6 (dh r) (dh x.1))=true then nV r x.1 else .str "days")else .str "order"
theorem MO {aa:LD}{O M:Nat}{r l:D}(hr:aa[O]? = some r)(hl:aa[M]? = some l)(a:b7 r)(c:b7 l)(e:kindOf r∈dA)(f:kindOf l = "leave"):∃d,oC [.tup aa,.int O,.int M]=some (d,false)/\Su d .non=sO (MN r O (l,M))/\d=CW r O (l,M):=by
 have i:=gF e;have n:=gF (wW f);obtain⟨d,o,e2,q⟩:=yY a c e (.inr f);let E:DL.Env:=[sT aa,sI O,sI M,some (r,false),some (fH (dh l),false)];have j:∀ρ:DL.Env,ρ[0]? = some (sT aa)->ρ[2]? = some (sI M)->f2 eG (am 0) (am 2) ρ=some (l,false):=λρ h0 h2=>aP (.tup aa) (.int M) (by simp[h0]) (by simp[h2]) (by simp[aY hl]);have g:bD (fA iQ (fV 0 (fV 2 (fV 1 av)))) E=some (kR (l,M) (r,O)):=bZ (a0 _ rr (yZ hl hr c a n i));have s:bD (fA kg (ao (fA bj (fV 3 av)) (fV 4 av))) E=some (m4 (aO r) (dh l)):=bZ (a0 _ (a9 (a0 [r] rr (rJ a i)) (aV rr rr)) (wP _ _ _));have t:bD (fA gE (ao (fA ay (fV 3 (ao (fS "stretch") av))) (fV 4 av))) E=some (J6 (dh r) (dh l)):=bZ (a0 _ (a9 (a0 [r,.str "stretch"] rr (CV a e)) (aV rr rr)) (Rp _ _));have m:=bx (be s) λ_=>be t;have go:∀(h:FS)(res:Option Res),h E=res->bd (cP 3 (f2 eG (am 0) (am 1))) (bd (cP 4 (fA ay (ao (f2 eG (am 0) (am 2)) (ao (fS "stretch") av)))) h) [sT aa,sI O,sI M,none,none]=res:=λh res k=>
  gA r (aP (.tup aa) (.int O) rr rr (by simp[aY hr])) a.flat (gA (fH (dh l)) (a0 [l,.str "stretch"] (a9 (j _ rr rr) rr) (CV c (wW f))) (iz _) k)
 unfold MN;cases U:kR (l,M) (r,O) with
 |false=>exact⟨.str "order",ah rr (go _ _ (aU (be (p:=false) (g.trans (by rw[U]))) (ak rr))),rr,by simp only[CW,U];rfl⟩
 |true=>
  cases b:(m4 (aO r) (dh l) && J6 (dh r) (dh l)) with
  |false=>exact⟨.str "days",ah rr (go _ _ (aw (be (p:=true) (g.trans (by rw[U]))) (aU (m.trans (by rw[<-Bool.not_and,b];rfl)) (ak rr)))),rr,by simp only[CW,U,b];rfl⟩
  |true=>exact⟨d,ah rr (go _ _ (aw (be (p:=true) (g.trans (by rw[U]))) (aw (m.trans (by rw[<-Bool.not_and,b];rfl)) (ak (a0 [r,l] (aV rr (a9 (j _ rr rr) rr)) o))))),e2,by rw[q];simp only[CW,U,b];rfl⟩
theorem lw {aa:LD}{ae:Int}{i:Nat}{r:D}(hr:aa[i]? = some r)(g:b7 r):iO [.tup aa,.int ae,.int i]=sO (decide (a5 r<=ae) && mz r):=by
 have M:cM [.tup aa,.int ae,.int i]=sO (decide (a5 r<=ae)):=by
  obtain⟨a,k,ag,rfl,d⟩:=g;exact jI hr _
 exact ah rr (ak (bS (a0 _ rr M) λ_=>aP _ _ (a0 _ (aV (aP _ _ rr rr (by simp[aY hr])) rr) (gp g.c)) rr (by simp[mz])))
noncomputable def AS (K:KL)(p:Str):KL:=(K.filter λx=>mz x.1).filter λx=>decide (aM 2 x.1=p)
theorem J7 (g:∀r∈aa,b7 r)(h:x∈AS (aj aa ae) p):aa[x.2]? = some x.1/\b7 x.1/\kindOf x.1 = "leave":=by
 obtain⟨h1,_⟩:=vN h;obtain⟨h2,h3⟩:=vN h1;exact⟨aT h2,g _ (vL (aT h2)),ET h3⟩
theorem E8 {aa:LD}(g:∀r∈aa,b7 r)(hl:aa.length<=60)(ae:Int)(p:Str):oD [.tup aa,.int ae,.str p]=lT ((AS (aj aa ae) p).map λx=>.int x.2):=by
 have O:=bT aa ae;have h1:=dH (fi:=cb (fA eK (fV 0 (fV 1 av)))) (nT:=1) (cap:=[0,1]) (tg:=dS 0) (c:=bD (fA iO (fV 1 (fV 2 (fV 0 av))))) (fe:=am 0)
  (ρ:=[sT aa,sI ae,sS p,none]) (aj aa ae) (λx=>.int x.2) (λx=>mz x.1) (λx=>.int x.2)
  (by show(fA eK _ _).bind _=_;rw[a0 _ rr (jG aa (λr hr=>(g r hr).c.rp) N9 ae)];rfl) N9 λx hx=>by
   have hk:=(vN hx).2;have:=lw (ae:=ae) (aT hx) (g _ (vL (aT hx)));rw[hk,Bool.true_and]at this;exact⟨_,rr,bZ (a0 _ rr this),λ_=>⟨false,rr⟩⟩
 have M:aQ (((aj aa ae).filter λx=>mz x.1).map λx=>D.int x.2)=true:=bL λd hd=>by obtain⟨x,_,rfl⟩:=vO hd;rfl
 refine ah rr (b9 h1 M (ak ?_));refine dH (fi:=cb (am 3)) (nT:=1) (cap:=[2,0]) (tg:=dS 0) (fe:=am 0)
  (ρ:=[sT aa,sI ae,sS p,lT (((aj aa ae).filter λx=>mz x.1).map λx=>.int x.2)]) ((aj aa ae).filter λx=>mz x.1) (λx=>.int x.2) _ (λx=>.int x.2) V9 (vR (vM _ _) N9) λx hx=>?_
 obtain⟨h2,h3⟩:=vN hx;obtain⟨a,d,b,q,m,st,f,e,_⟩:=oQ (g _ (vL (aT h2))) (ET h3);refine⟨[sI x.2,sS p,sT aa],rr,bZ (aP (.str (aM 2 x.1)) (.str p) (a0 [x.1,.str "person"] (aV (aP (.tup aa) (.int x.2) rr rr (by simp[aY (aT h2)])) rr) ?_) rr V9),λ_=>⟨false,rr⟩⟩;rw[e];rfl
theorem E9 {aa:LD}(g:∀r∈aa,b7 r)(hl:aa.length<=60)(ae:Int){M:Nat}{r:D}(hr:aa[M]? = some r)(U:kindOf r∈dA):
    kQ [.tup aa,.int ae,.int M]=lT (((AS (aj aa ae) (cU r)).filter (MN r M)).map λx=>.tup [.str "leave",.int x.2]):=by
  have a:=g r (vL hr);have e:=bT aa ae;have b:(AS (aj aa ae) (cU r)).length<=60:=vR (vM _ _) (vR (vM _ _) N9);have O:aQ ((AS (aj aa ae) (cU r)).map λx=>D.int x.2)=true:=bL λd hd=>by obtain⟨x,_,rfl⟩:=vO hd;rfl
  refine ah rr (b9 (a0 _ (aV rr (aV rr (a9 (a0 _ (aV (aP _ _ rr rr (by simp[aY hr])) rr) (CU a (iX (.inl (rH U))))) rr))) (E8 g hl _ _)) O (ak ?_));refine dH
     _ (λx=>.int x.2) _ _ V9 N9 λx hx=>?_
  obtain⟨h1,h2,h3⟩:=J7 g hx;obtain⟨d,c,e2,_⟩:=MO hr h1 a h2 U h3;exact⟨[sF _,sF _,sF _],rr,bZ (aP d _ (a0 _ rr c) rr e2),λ_=>⟨false,a0 _ rr (aW _ V9)⟩⟩
abbrev Bs:=Option Str×Int
noncomputable def MP:Bs->D
 | (some o,n)=>.tup [.str "office",.str o,.int n]
 | (none,n)=>.tup [.str "leave",.int n]
noncomputable def za:Bs->List At
 | (some o,n)=>[.i n,.s ("office" : Str),.s o,.i n]
 | (none,n)=>[.i n,.s ("leave" : Str),.i n]
theorem J8 (b:Bs):aI (MP b)=true:=by rcases b with⟨_|o,n⟩<;>rfl
theorem MQ (b:Bs):eG (MP b) (.int (-1))=sI b.2:=by rcases b with⟨_|o,n⟩<;>rfl
theorem J9 (a b:Bs):(aR (za a) (za b)).isSome=true:=by
 have O:("office" : Str) ≠ "leave":=H9
 rcases a with⟨_|o,n⟩<;>rcases b with⟨_|o',M⟩
 .show(aR [.i n,.s _,.i n] [.i M,.s _,.i M]).isSome=true;rw[aR];split
  .simp_all[aR]
  .rfl
 .show(aR [.i n,.s _,.i n] [.i M,.s _,.s o',.i M]).isSome=true;rw[aR];split
  .rfl
  .rfl
 .show(aR [.i n,.s _,.s o,.i n] [.i M,.s _,.i M]).isSome=true;rw[aR];split
  .rfl
  .rfl
 .show(aR [.i n,.s _,.s o,.i n] [.i M,.s _,.s o',.i M]).isSome=true;rw[aR];split
  .rw[aR,if_pos rr,aR];split
   .simp_all[aR]
   .rfl
  .rfl
theorem MT (h:za a=za b):a=b:=by
 rcases a with⟨_|o,n⟩<;>rcases b with⟨_|o',M⟩<;>simp[za]at h
 .rw[h]
 simp_all
theorem CY (l:List Bs):cr (l.map za)=true:=by
 simp_all[cr,J9]
theorem JB (e:bV (za a)=bV (za b)):a=b:=MT (jW (CY [a,b]) V9 V9 e)
def toB (cs:List Cl)(r v:D):Bs:=(some (aM 0 v),Jz cs r v)
def AT (K:KL)(cs:List Cl)(r:D)(M:Nat):List Bs:=((bw K).filter (AR cs r)).map (toB cs r)++((AS K (cU r)).filter (MN r M)).map λx=>(none,(x.2:Int))
def MU (K:KL)(cs:List Cl)(r:D)(M:Nat):List Bs:=cL (λb=>bV (za b)) (AT K cs r M)
theorem EA (hn:((bw (aj aa ae)).map (aM 0)).Nodup)(cs:List Cl)(r:D)(M:Nat):(AT (aj aa ae) cs r M).Nodup:=by
 unfold AT;rw[nodup_append];refine⟨?_,?_,?_⟩
 .exact pairwise_map.mpr ((List.Pairwise.sublist filter_sublist (pairwise_map.mp hn)).imp λh e=>h (vK (Prod.mk.inj e).1))
 .refine pairwise_map.mpr ((List.Pairwise.sublist (filter_sublist.trans (filter_sublist.trans filter_sublist)) (pairwise_map.mp (dP _ _))).imp λh e=>h ?_);lia
 .intro a ha b hb e;obtain⟨v,_,rfl⟩:=vO ha;obtain⟨x,_,rfl⟩:=vO hb;cases (Prod.mk.inj e).1
theorem uq {α:Type}{g:α->D}{h:α->List At}:∀(l:List α),(∀x∈l,Q8 (g x)=some (h x))->kK (l.map g)=some (l.map h)
 |[],_=>rr
 |x::l,k=>by
  rw[uX,kK,k x mX,uq l λy hy=>k y (mZ _ hy)];rfl
theorem CZ (hl:aa.length<=30)(ae:Int)(cs:List Cl)(r:D)(M:Nat):(AT (aj aa ae) cs r M).length<=60:=by
 have h1:((bw (aj aa ae)).filter (AR cs r)).length<=30:=by
  grind[bw,bT]
 grind[bT,AS,AT]
theorem JD {f:FE}{ρ:DL.Env}{b:Bool}(l:List Bs)(hl:l.length<=60)(hn:l.Nodup)(e:f ρ=some (.lst (l.map MP),b)):AD f (y6 [] (fA cn (ao (f2 eG (am 0) (f1 Ga (fI 1))) (fV 0 av)))) ρ=lT ((cL (λb=>bV (za b)) l).map MP):=by
 have hm:ju (y6 [] (fA cn (ao (f2 eG (am 0) (f1 Ga (fI 1))) (fV 0 av))) ρ) _=some _:=gn l λb _=>by
  show(fA cn _ _).map _=_;rw[a0 _ (aV (aP _ _ rr rr (MQ b)) (aV rr rr)) (aW _ V9)];rfl
 have hk:kK (l.map λb=>D.tup [.int b.2,MP b])=some (l.map za):=uq l λb _=>by rcases b with⟨_|o,n⟩<;>rfl
 have M:(l.map za).length<64/\cr (l.map za)=true/\True/\((l.map za).map bV).Nodup:=by
  refine⟨by rw[vH];lia,CY l,trivial,?_⟩;rw[uO];exact pairwise_map.mpr (List.Pairwise.imp (λh e=>h (JB e)) hn)
 unfold AD wt;rw[e];simp only[vJ];rw[hm];simp only[vJ];rw[hk];simp only[vJ];rw[if_pos M];unfold hU;have key:((cL (λb=>bV (za b)) l).map λb=>(za b,MP b))=cL (λp=>bV p.1) (l.map λb=>(za b,MP b)):=by
  refine gZ _ (λx hx y hy e=>?_) ((aC _ _).map _) ?_
  .grind[JB]
  .exact pairwise_map.mpr (dn _ _)
 rw[zip_map',<-key,uO];rfl
section
variable {aa:LD}(g:∀r∈aa,b7 r) (hl:aa.length<=30) (ae:Int) (hn:((bw (aj aa ae)).map (aM 0)).Nodup)
include g hl hn
theorem zb (cs:List Cl)(h:cs.length<=60){M:Nat}{r:D}(hr:aa[M]? = some r)(e:kindOf r∈dA)(hk:a5 r<=ae):eB [.tup aa,.int ae,.lst (cs.map ba),.int M]=lT ((MU (aj aa ae) cs r M).map MP):=by
 have f:=g r (vL hr);have wd:∀(ρ:DL.Env)(j:Nat),ρ[0]? = some (sT aa)->ρ[j]? = some (sI M)->fA aS (ao (f2 eG (am 0) (am j)) av) ρ=sS (kindOf r):=λρ j h0 h2=>a0 [r] (aV (aP (.tup aa) (.int M) (by simp[h0]) (by simp[h2]) (by simp[aY hr])) rr) (gp f.c);have i:cM [.tup aa,.int ae,.int M]=sO true:=by
  obtain⟨a,k,ag,rfl,d⟩:=id f;rw[jI hr ae,xw (show a<=ae from hk)]
 have l:cy [.tup aa,.int ae,.int M]=sO (decide _):=ah rr (ak (bS (p:=true) (a0 [.tup aa,.int ae,.int M] rr i) λ_=>aP (.str (kindOf r)) (.tup ([("paper" : Str),"like","copy"].map .str)) (wd _ 2 rr rr) rr (dO _ _)));have hb:gg [.tup aa,.int ae,.int M]=sO true:=by
  refine(ah rr (ak (tY (a0 [.tup aa,.int ae,.int M] rr (lw hr f)) λ_=>a0 [.tup aa,.int ae,.int M] rr l))).trans ?_;rw[xw hk,Bool.true_and];have:∀k∈dA,(decide (k = "leave") || decide (k∈[("paper" : Str),"like","copy"]))=true:=H9
  unfold mz;rw[this _ e]
 have m:decide (kindOf r = "copy")=false:=by
  have:∀k∈dA,decide (k = "copy")=false:=H9
  exact this _ e
 have U:=CZ hl ae cs r M;have n:aQ ((AT (aj aa ae) cs r M).map MP)=true:=bL λd hd=>by obtain⟨b,_,rfl⟩:=vO hd;exact J8 b
 refine ah rr (aw (be (p:=true) (bZ (a0 [.tup aa,.int ae,.int M] rr hb))) (aw (bB (a:=kindOf r) (bb:=false) (wd _ 3 rr rr) m) (b9 ?_ n (ak (JD (b:=false) _ U (EA hn cs r M) rr)))));have ho:=E7 g N9 ae hn cs h hr e;have hv:=E9 g N9 ae hr e;refine eW (b1:=true) (b2:=true) (a0 _ rr ho) (a0 [.tup aa,.int ae,.int M] rr hv) ?_;have O:=U;unfold AT at O |-;rw[uY,vH,vH]at O;refine(if_pos (bg (by grind))).trans ?_;rw[uV,uO,uO];rfl
end
def MV (K:KL)(c r:D):Bool:=decide (cU c=cU r) || (!decide (kindOf r = "copy") && (bw K).any λv=>decide (ky v &&& ky r=ky r) && jb (aX K) (aM 0 v) (aM 3 v) (cU c) (aO c))
theorem AU {α:Type}(l:List α)(p f:α->Bool):((l.filter p).map f).any id=l.any λx=>p x && f x:=by
 simp
theorem Rr {aa:LD}(g:∀r∈aa,b7 r)(hl:aa.length<=60)(ae:Int)(t:(aX (aj aa ae)).length<=60)(hn:((bw (aj aa ae)).map (aM 0)).Nodup){O U:Nat}{c r:D}(hc:aa[O]? = some c)(hr:aa[U]? = some r)(n:kindOf c = "call")(p:kindOf r∈bp):
  qV [.tup aa,.int ae,.lst ((aX (aj aa ae)).map ba),.int O,.int U]=sO (MV (aj aa ae) c r):=by
 have u:eZ aa:=⟨hl,λr hr=>(g r hr).c⟩;have q:=g c (vL hc);have h:=g r (vL hr);have s:=aY hc;have w:=aY hr;have pc:=CU q (iX (.inr n));have y:=CU h (iX (.inl p));have i:∀v∈bw (aj aa ae),b7 v/\aJ v=true:=λv hv=>by
  obtain⟨x,hx,rfl⟩:=vO hv;obtain⟨h1,h2⟩:=vN hx;exact⟨g _ (vL (aT h1)),h2⟩
 have z:(bw (aj aa ae)).length<=60:=by
  unfold bw;rw[vH];exact vR (vM _ _) (vR (bT aa ae) hl)
 have A:bj [c]=sI (aO c):=by
  have:=ug q.c;unfold wO at this;rwa [if_neg (by unfold aJ;rw[n];decide +kernel)]at this
 have b:∀(d:OB),bD (f2 je (am 6) (fA ay (fV 5 (ao (fS "by") av)))) [sT aa,sI ae,sL ((aX (aj aa ae)).map ba),sI O,sI U,some (r,false),sS (cU c),d]=some (decide (cU c=cU r)):=λd=>bZ (aP (.str (cU c)) (.str (cU r)) rr (a0 [r,.str "by"] rr y) V9);have e:∀(d:OB),bD (f2 je (fA aS (fV 5 av)) (fS "copy")) [sT aa,sI ae,sL ((aX (aj aa ae)).map ba),sI O,sI U,some (r,false),sS (cU c),d]=some (decide (kindOf r = "copy")):=λd=>bB (a:=kindOf r) (bb:=false) (a0 [r] rr (gp h.c)) rr;refine ah rr (gA r (aP (.tup aa) (.int U) rr rr (by simp[w])) h.flat (gA (.str (cU c)) (a0 [c,.str "by"] (aV (aP (.tup aa) (.int O) rr rr (by simp[s])) rr) pc) rr ?_));unfold MV;cases h1:decide (cU c=cU r) with
 |true=>exact aU ((b none).trans (by rw[h1])) (ak rr)
 |false=>
  refine aw ((b none).trans (by rw[h1])) ?_;cases h2:decide (kindOf r = "copy") with
  |true=>exact aU ((e none).trans (by rw[h2])) (ak rr)
  |false=>
   have B:kindOf r∈dA:=by
    have C:=of_decide_eq_false h2;have:∀k∈bp,k ≠ "copy"->k∈dA:=H9
    exact this _ p C
   have pm:=wV h B;refine aw ((e none).trans (by rw[h2])) ?_;have M:=dH (fi:=wy (fA iM (fV 0 (fV 1 av)))) (nT:=1) (cap:=[5]) (tg:=dS 0) (c:=bD (fA jB (ao (fA ay (fV 0 (ao (fS "matters") av))) (ao (fA ay (fV 1 (ao (fS "matters") av))) av)))) (fe:=am 0)
    (ρ:=[sT aa,sI ae,sL ((aX (aj aa ae)).map ba),sI O,sI U,some (r,false),sS (cU c),none]) (bw (aj aa ae)) id (λv=>decide (ky v &&& ky r=ky r)) id
    (by show(fA iM _ _).bind _=_;rw[a0 [.tup aa,.int ae] rr (rC u ae),rF hn];simp) N9 λv hv=>by
     obtain⟨j,l⟩:=i v hv;exact⟨[some (v,false),some (r,false)],rr,bZ (a0 [.int (ky v),.int (ky r)] (a9 (a0 [v,.str "matters"] rr (CT j l)) (a9 (a0 [r,.str "matters"] rr pm) rr)) (uo _ _)),λ_=>⟨false,rr⟩⟩
   rw[map_id]at M;refine b9 M (bL λv hv=>(i v (vN hv).1).1.flat) (ak ?_);have E:=f8 (fi:=cb (am 7)) (nT:=1) (cap:=[2,6,0,3]) (tg:=dS 0) (fe:=fA dL (fV 1 (fV 0 (fV 2 (ao (fA bj (ao (f2 eG (am 3) (am 4)) av)) av)))))
    (ρ:=[sT aa,sI ae,sL ((aX (aj aa ae)).map ba),sI O,sI U,some (r,false),sS (cU c),lT ((bw (aj aa ae)).filter λv=>decide (ky v &&& ky r=ky r))]) ((bw (aj aa ae)).filter λv=>decide (ky v &&& ky r=ky r)) id (λv=>.bl (jb (aX (aj aa ae)) (aM 0 v) (aM 3 v) (cU c) (aO c)))
    V9 (vR (vM _ _) N9) λv hv=>by
     obtain⟨j,l⟩:=i v (vN hv).1;obtain⟨a,o,rl,m,f,rfl,_,_⟩:=rE j l;exact⟨[some (row a ("root" : Str) [.str o,.int m,.int f,.str rl],false),sL ((aX (aj aa ae)).map ba),sS (cU c),sT aa,sI O],rr,false,a0 _ (aV rr (aV rr (aV rr (a9 (a0 [c] (aV (aP (.tup aa) (.int O) rr rr (by simp[s])) rr) A) rr)))) (CN _ t _ _)⟩
   refine(a0 [_] (a9 E rr) ?_);show(vx _).map _=_;rw[HV,Option.map_some,AU];rfl
theorem AW (g:b7 r)(h:kindOf r = "call"):∃a d b,∃n:Nat,r=row a ("call" : Str) [.int d,.str b,.int n]:=by
 obtain⟨a,k,ag,rfl,d⟩:=g;have hk:k = "call":=h;clear h;cases d with
 |copy k M d b n=>subst hk;exact⟨a,d,b,n,rr⟩
 |root=>exact gP hk
 |named=>exact gP hk
 |three k M=>rcases M with rfl|rfl|rfl<;>exact gP hk
 |leave=>exact gP hk
 |paper k M=>rcases M with rfl|rfl<;>exact gP hk
def EB (aa:LD)(ae:Int)(M:Nat)(r:D)(day:Int)(c:D):Bool:=decide (kindOf c = "call") && (decide (gy 2 c=M) && (decide (aO c<=day) && (iU aa ae c && MV (aj aa ae) c r)))
theorem rL (e:f ρ=some (.str a,bb)):bD (f2 xT f (fS b)) ρ=some (!decide (a=b)):=by simp_all
section
variable {aa:LD}(g:∀r∈aa,b7 r) (hl:aa.length<=60) (ae:Int) (jN:(aX (aj aa ae)).length<=60) (hn:((bw (aj aa ae)).map (aM 0)).Nodup)
include g hl jN hn
theorem zc {O M:Nat}{c r:D}(hc:aa[O]? = some c)(hr:aa[M]? = some r)(j:kindOf r∈bp)(day:Int):lr [.tup aa,.int ae,.lst ((aX (aj aa ae)).map ba),.int O,.int M,.int day]=sO (EB aa ae M r day c):=by
 have e:=g c (vL hc);have k:=aY hc;have i:bD (f2 xT (fA aS (fV 6 av)) (fS "call")) [sT aa,sI ae,sL ((aX (aj aa ae)).map ba),sI O,sI M,sI day,some (c,false)]=some (!decide (kindOf c = "call")):=rL (a:=kindOf c) (bb:=false) (a0 [c] rr (gp e.c));refine ah rr (gA c (aP (.tup aa) (.int O) rr rr (by simp[k])) e.flat ?_);unfold EB;by_cases hk:kindOf c = "call"
 .obtain⟨a,d,b,n,f⟩:=AW e hk;have l:gy 2 c=(n:Int):=by rw[f];rfl
  have e2:aO c=d:=by rw[f];rfl
  have po:ay [c,.str "of"]=sI n:=by rw[f];rfl
  have m:bj [c]=sI d:=by
   have:=ug e.c;unfold wO at this;rwa [if_neg (by unfold aJ;rw[hk];decide +kernel),e2]at this
  have o:bD (f2 xT (fA ay (fV 6 (ao (fS "of") av))) (am 4)) [sT aa,sI ae,sL ((aX (aj aa ae)).map ba),sI O,sI M,sI day,some (c,false)]=some (!decide ((n:Int)=M)):=bZ (aP (.int n) (.int M) (a0 [c,.str "of"] rr po) rr V9);have s:bD (f2 Ss (fA bj (fV 6 av)) (am 5)) [sT aa,sI ae,sL ((aX (aj aa ae)).map ba),sI O,sI M,sI day,some (c,false)]=some (decide (day<d)):=bZ (aP (.int d) (.int day) (a0 [c] rr m) rr rr);have U:=bx i λ_=>bx o λ_=>s;rw[l,e2,xw hk,Bool.true_and];rw[xw hk]at U;by_cases h1:(n:Int)=M
  .by_cases h2:d<=day
   .rw[xw h1,xw h2,Bool.true_and,Bool.true_and];rw[xw h1,ES N9]at U;exact aw U (ak (bS (a0 [.tup aa,.int ae,.int O] rr (yT aa (λr hr=>(g r hr).c.rp) N9 ae hc)) λ_=>a0 _ rr (Rr g hl ae jN hn hc hr hk j)))
   .rw[ES h2,Bool.false_and,Bool.and_false];rw[xw h1,xw (show day<d by lia)]at U;exact aU U (ak rr)
  .rw[ES h1,Bool.false_and];rw[ES h1]at U;exact aU U (ak rr)
 .rw[ES hk,Bool.false_and];refine aU (bx (p:=true) (q:=false) (i.trans (by rw[ES hk];rfl)) λh=>by cases h) (ak rr)
def wZ (aa:LD)(ae:Int)(M:Nat)(r:D)(day:Int):LN:=if a5 r<=ae/\kindOf r∈bp then ((aj aa ae).filter λx=>EB aa ae M r day x.1).map (·.2)else []
theorem zd {M:Nat}{r:D}(hr:aa[M]? = some r)(day:Int):qW [.tup aa,.int ae,.lst ((aX (aj aa ae)).map ba),.int M,.int day]=lT ((wZ aa ae M r day).map λn:Nat=>.int n):=by
 have h:=g r (vL hr);have i:=aY hr;have U:cM [.tup aa,.int ae,.int M]=sO (decide (a5 r<=ae)):=by
  obtain⟨a,k,ag,e,d⟩:=h;rw[e]at hr;rw[show a5 r=a by rw[e];rfl];exact jI hr ae
 have wd:∀ρ:DL.Env,ρ[0]? = some (sT aa)->ρ[2]? = some (sI M)->fA aS (ao (f2 eG (am 0) (am 2)) av) ρ=sS (kindOf r):=λρ h0 h2=>a0 [r] (aV (aP (.tup aa) (.int M) (by simp[h0]) (by simp[h2]) (by simp[i])) rr) (gp h.c);have b:iO [.tup aa,.int ae,.int M]=sO (decide (a5 r<=ae) && decide (kindOf r = "leave")):=ah rr (ak (bS (a0 [.tup aa,.int ae,.int M] rr U) λ_=>aP (.str (kindOf r)) (.str "leave") (wd _ rr rr) rr V9));have j:cy [.tup aa,.int ae,.int M]=sF _:=ah rr (ak (bS (a0 [.tup aa,.int ae,.int M] rr U) λ_=>aP (.str (kindOf r)) (.tup ([("paper" : Str),"like","copy"].map .str)) (wd _ rr rr) rr (dO _ _)));have hb:gg [.tup aa,.int ae,.int M]=sO (decide (a5 r<=ae/\kindOf r∈bp)):=by
  refine(ah rr (ak (tY (a0 [.tup aa,.int ae,.int M] rr b) λ_=>a0 [.tup aa,.int ae,.int M] rr j))).trans ?_;congr 3;simp only[bp,mem_cons,not_mem_nil,or_false];by_cases h1:a5 r<=ae
  .simp[h1]
  .simp[h1]
 unfold wZ;by_cases hx:a5 r<=ae/\kindOf r∈bp
 .rw[if_pos hx];refine ah rr (aw (be (p:=true) (bZ (a0 [.tup aa,.int ae,.int M] rr (by rw[hb,xw hx])))) (ak ?_));have O:=dH (fi:=cb (fA eK (fV 0 (fV 1 av)))) (nT:=1) (cap:=[0,1,2,3,4]) (tg:=dS 0) (c:=bD (fA lr (fV 1 (fV 2 (fV 3 (fV 0 (fV 4 (fV 5 av)))))))) (fe:=am 0)
   (ρ:=[sT aa,sI ae,sL ((aX (aj aa ae)).map ba),sI M,sI day]) (aj aa ae) (λx=>.int x.2) (λx=>EB aa ae M r day x.1) (λx=>.int x.2)
   (by show(fA eK _ _).bind _=_;rw[a0 [.tup aa,.int ae] rr (jG aa (λr hr=>(g r hr).c.rp) N9 ae)];rfl) (vR (bT aa ae) N9) λx f=>by
    exact⟨_,rr,bZ (a0 _ rr (zc g hl ae jN hn (aT f) hr hx.2 day)),λ_=>⟨false,rr⟩⟩
  rw[uO];exact O
 .rw[if_neg hx];exact ah rr (aU (be (p:=false) (bZ (a0 [.tup aa,.int ae,.int M] rr (by rw[hb,ES hx])))) (ak (a0 [] rr (cz _ V9))))
omit jN in
end
noncomputable def ci:LS:=[("paper" : Str),"like","copy"]
noncomputable def MW (w:Str):Bs->D
 | (some o,n)=>.tup [.str "office",.str o,.int n]
 | (none,n)=>.tup [.str w,.int n]
def Ru (r:D):Str:=if kindOf r = "copy" then ("copy" : Str)else ("leave" : Str)
theorem ur {aa:LD}{n:Nat}(h:aa.length<=n)(ae:Int):cM [.tup aa,.int ae,.int n]=sO false:=by
 refine ah rr (ak (bS (p:=false) (q:=false) (b1:=false) ?_ λz=>by cases z));have h1:¬(n:Int)<aa.length:=N9
 exact(io (p:=true) (z:=.int aa.length) (b3:=false) (b4:=false) rr rr V9 V9 λ_=>by simp[h1])
theorem JF {aa:LD}{i:Nat}{r:D}(hr:aa[i]? = some r)(g:b7 r)(ae:Int):cM [.tup aa,.int ae,.int i]=sO (decide (a5 r<=ae)):=by
 obtain⟨a,k,ag,rfl,d⟩:=g;exact jI hr _
theorem Db {aa:LD}{i:Nat}{r:D}(hr:aa[i]? = some r)(g:b7 r){ρ:DL.Env}{j:Nat}(h0:ρ[0]? = some (sT aa))(hj:ρ[j]? = some (sI i)):fA aS (ao (f2 eG (am 0) (am j)) av) ρ=sS (kindOf r):=
 a0 _ (aV (aP (.tup aa) (.int i) (by simp[h0]) (by simp[hj]) (by simp[aY hr])) rr) (gp g.c)
theorem m6 {aa:LD}{i:Nat}{r:D}(hr:aa[i]? = some r)(g:b7 r)(ae:Int):cy [.tup aa,.int ae,.int i]=sO (decide (a5 r<=ae) && decide (kindOf r∈ci)):=
 ah rr (ak (bS (a0 _ rr (JF hr g _)) λ_=>aP _ (.tup (ci.map _)) (Db hr g rr rr) rr (dO _ _)))
theorem ze {aa:LD}{i:Nat}{r:D}(hr:aa[i]? = some r)(g:b7 r)(ae:Int):gg [.tup aa,.int ae,.int i]=sO (decide (a5 r<=ae) && decide (kindOf r∈bp)):=by
 refine(ah rr (ak (tY (a0 _ rr (lw hr g)) λ_=>a0 _ rr (m6 hr g _)))).trans ?_;unfold mz;simp only[bp,ci,or_false];by_cases h1:a5 r<=ae
 .simp[h1]
 .simp[h1]
def m7 (aa:LD)(ae:Int)(r:D)(M n:Nat):Bool:=match aa[n]? with
 |none=>false
 |some q=>(decide (a5 q<=ae) && decide (kindOf q∈ci)) && kR (q,n) (r,M)
theorem rM (g:b7 r)(h:kindOf r = "copy"):∃a d b,∃n:Nat,r=row a ("copy" : Str) [.int d,.str b,.int n]:=by
 obtain⟨a,k,ag,rfl,d⟩:=g;have hk:k = "copy":=h;clear h;cases d with
 |copy k M d b n=>subst hk;exact⟨a,d,b,n,rr⟩
 |root=>exact gP hk
 |named=>exact gP hk
 |three k M=>rcases M with rfl|rfl|rfl<;>exact gP hk
 |leave=>exact gP hk
 |paper k M=>rcases M with rfl|rfl<;>exact gP hk
theorem rN (h:kindOf r∈ci):aJ r=false:=by
 have:∀k∈ci,decide (k = "root")=false:=H9
 exact this _ h
theorem EC {aa:LD}(g:∀r∈aa,b7 r)(ae:Int){M:Nat}{r:D}(hr:aa[M]? = some r)(U:kindOf r = "copy"):∃n:Nat,gy 2 r=n/\mn [.tup aa,.int ae,.int M]=lT ((if m7 aa ae r M n=true then [((none,(n:Int)):Bs)]else []).map (MW ("copy" : Str))):=by
 have c:=g r (vL hr);obtain⟨a,d,b,n,er⟩:=rM c U;have f:aJ r=false:=rN (by rw[U];decide +kernel);have po:ay [r,.str "of"]=sI n:=by rw[er];rfl
 refine⟨n,by rw[er];rfl,?_⟩;let E:DL.Env:=[sT aa,sI ae,sI M,sI n];refine ah rr (gA (.int n) (a0 [r,.str "of"] (aV (aP (.tup aa) (.int M) rr rr (by simp[aY hr])) rr) po) rr ?_);have O:ft (bD (fA cy (fV 0 (fV 1 (fV 3 av))))) (bD (fA iQ (fV 0 (fV 3 (fV 2 av))))) E=some (m7 aa ae r M n):=by
  unfold m7;cases hq:aa[n]? with
  |none=>
   have hn:aa.length<=n:=List.getElem?_eq_none_iff.mp hq;exact ce (p:=false) (q:=false) (bZ (a0 [.tup aa,.int ae,.int n] rr (ah rr (ak (bS (p:=false) (q:=false) (a0 [.tup aa,.int ae,.int n] rr (ur hn ae)) λz=>by cases z))))) λz=>by cases z
  |some q=>
   have e:=g q (vL hq);exact ce (bZ (a0 [.tup aa,.int ae,.int n] rr (m6 hq e ae))) λh=>by
    rw[vB]at h;exact bZ (a0 [.tup aa,.int n,.int M] rr (yZ hq hr e c (rN (ET h.2)) f))
 cases hv:m7 aa ae r M n with
 |true=>
  rw[hv]at O;rw[if_pos rr];exact aU O (ak (a0 [.tup [.str "copy",.int n]] (aV (a0 [.str "copy",.int n] rr (aW _ V9)) rr) (cz _ V9)))
 |false=>
  rw[hv]at O;rw[if_neg Z9];exact aw O (ak (a0 [] rr (cz _ V9)))
def oR (aa:LD)(ae:Int)(cs:List Cl)(x:D×Nat):List Bs:=if kindOf x.1 = "copy" then (if m7 aa ae x.1 x.2 (gy 2 x.1).toNat=true then [(none,gy 2 x.1)]else [])else MU (aj aa ae) cs x.1 x.2
section
variable {aa:LD}(g:∀r∈aa,b7 r) (hl:aa.length<=30) (ae:Int) (hn:((bw (aj aa ae)).map (aM 0)).Nodup)
include g hl hn
theorem MX (cs:List Cl)(O:cs.length<=60){U:Nat}{r:D}(hr:aa[U]? = some r)(b:kindOf r∈bp)(hk:a5 r<=ae):eB [.tup aa,.int ae,.lst (cs.map ba),.int U]=lT ((oR aa ae cs (r,U)).map (MW (Ru r))):=by
 have a:=g r (vL hr);unfold oR Ru;by_cases M:kindOf r = "copy"
 .rw[if_pos M,if_pos M];obtain⟨n,c,e2⟩:=EC g _ hr M;rw[c];refine ah rr (aw (be (p:=true) (bZ (a0 _ rr ((ze hr a _).trans (by simp_all))))) (aU (bB (Db hr a rr rr) (xw M)) (ak (a0 _ rr e2))))
 .rw[if_neg M,if_neg M];have d:=by
   have:∀k∈bp,k ≠ "copy"->k∈dA:=H9
   exact this _ b M
  exact zb g hl _ hn cs O hr d hk
end
theorem Rv (e:f (fN ρ)=some (d,b))(k:h (ρ.set i (some (d,false)))=r):bd (B3 i f) h ρ=r:=by simp_all
theorem Dc (e:ρ[i]? = some (some (.dk ks vs,b))):oj i ρ=some (.rt (.dk ks vs) false):=by simp[oj,e]
noncomputable def kN (x:D×Nat):di:=.inl (x.2:Int)
def ED (aa:LD)(ae day:Int)(x:D×Nat):Bool:=(iU aa ae x.1 && decide (aO x.1<=day)) && (wZ aa ae x.2 x.1 day).isEmpty
theorem MY {α:Type}(l:List α)(f:α->D):decide ((((l.map f).length:Nat):Int)=0)=l.isEmpty:=by
 cases l with
 |nil=>rfl
 |cons a l=>rfl
noncomputable def lx (aa:LD)(ae day:Int)(l:KL):KL:=l.filter λx=>decide (kindOf x.1∈bp) && ED aa ae day x
section
variable {aa:LD}(g:∀r∈aa,b7 r) (hl:aa.length<=30) (ae:Int) (hn:((bw (aj aa ae)).map (aM 0)).Nodup)
include g hl hn
theorem Rw (M:(aX (aj aa ae)).length<=60){O:Nat}{r:D}(hr:aa[O]? = some r)(b:kindOf r∈bp)(day:Int):qX [.tup aa,.int ae,.lst ((aX (aj aa ae)).map ba),.int O,.int day]=sO (ED aa ae day (r,O)):=by
 have d:=g r (vL hr);have f:=by
  have:∀k∈bp,decide (k = "root")=false:=H9
  exact this _ b
 let E:DL.Env:=[sT aa,sI ae,sL ((aX (aj aa ae)).map ba),sI O,sI day];have h:bD (fA lq (fV 0 (fV 1 (fV 3 av)))) E=some _:=bZ (a0 _ rr (yT aa (λr hr=>(g r hr).c.rp) N9 ae hr));have i:bD (f2 Ss (fA bj (ao (f2 eG (am 0) (am 3)) av)) (am 4)) E=some _:=bZ (aP _ (.int day) (a0 [r] (aV (aP (.tup aa) (.int O) rr rr (by simp[aY hr])) rr) (rJ d f)) rr rr);have U:=bx (be h) λ_=>i;have e:(!iU aa ae r || decide (day<aO r)) = !(iU aa ae r && decide (aO r<=day)):=by
  rw[Bool.not_and];congr 1;rw[<-decide_not];congr 1;rw[Int.not_le]
 rw[e]at U;unfold ED;cases a:(iU aa ae r && decide (aO r<=day)) with
 |false=>
  rw[a]at U;exact ah rr (aU U (ak rr))
 |true=>
  rw[a]at U;refine ah rr (aw U (ak ?_));rw[Bool.true_and,<-MY _ λn:Nat=>.int n];exact aP _ (.int 0) (a0 _ (a9 (a0 _ rr (zd g N9 ae M hn hr day)) rr) rr) rr V9
theorem JG (ho:(cD (aj aa ae)).length<=60)(day:Int):C5 [.tup aa,.int ae,.int day]=sF (.dk ((lx aa ae day (cD (aj aa ae))).map kN) ((lx aa ae day (cD (aj aa ae))).map λx=>.lst ((oR aa ae (aX (aj aa ae)) x).map (MW (Ru x.1))))):=by
 have n:eZ aa:=⟨N9,λr hr=>(g r hr).c⟩;obtain⟨o,U⟩:=E6 (aa:=aa) n ae ho;have p:eA [.tup aa,.int ae]=lT ((cD (aj aa ae)).map λx=>.int x.2):=oG n ae;generalize q:aX (aj aa ae)=cs at o U |-;have M:∀x∈cD (aj aa ae),x∈aj aa ae:=λx hx=>(vN ((aC _ _).mem_iff.mp hx)).1;have s:((cD (aj aa ae)).map (·.2)).Nodup:=nU (dP aa ae);generalize cD (aj aa ae)=O at ho p M s |-;let k:D×Nat->D:=λx=>.lst ((oR aa ae cs x).map (MW (Ru x.1)));let E:KL->OB->DL.Env:=λL a=>[sT aa,sI ae,sI day,sL (cs.map ba),some (.dk (L.map kN) (L.map k),true),a];obtain⟨ρ',e,a,rfl⟩:=fZ (tg:=dS 5) (g:=Ja) (λj ρ=>∃a,ρ=E (lx aa ae day (O.take j)) a) (O.map λx=>.int x.2) (E [] none) ⟨none,rr⟩ (by
  rintro j d ρ hd ⟨a,rfl⟩;rw[uZ]at hd;obtain⟨x,hx,rfl⟩:=oY hd;have t:=M x (vL hx);have hr:=aT t;have v:a5 x.1<=ae:=ET (vN t).2;have w:=g x.1 (vL hr);have z:O.take (j+1)=O.take j++[x]:=by rw[take_add_one,hx];rfl
  have u:lx aa ae day (O.take (j+1))=lx aa ae day (O.take j)++if(decide (kindOf x.1∈bp) && ED aa ae day x)=true then [x]else []:=by
   simp_all[lx,List.filter_cons]
  have i:x.2∉(lx aa ae day (O.take j)).map (·.2):=by
   have h2:((O.take (j+1)).map (·.2)).Nodup:=List.Nodup.sublist (List.Sublist.map _ (take_sublist _ _)) s;rw[z,uV,nodup_append]at h2;intro hm;obtain⟨y,hy,l⟩:=vO hm;exact h2.2.2 _ (uR ⟨y,(vN hy).1,rr⟩) _ V9 l
  have m:(lx aa ae day (O.take j)).length<=60:=vR (vM _ _) (vR (List.length_take_le' _ _) ho);generalize lx aa ae day (O.take j)=L at u i m;let F:DL.Env:=E L (sI x.2);have A:bD (fA gg (fV 0 (fV 1 (fV 5 av)))) F=some (decide (kindOf x.1∈bp)):=bZ (a0 [.tup aa,.int ae,.int x.2] rr ((ze hr w ae).trans (by simp_all)));have B:=ce A λh=>bZ (f:=fA qX (fV 0 (fV 1 (fV 3 (fV 5 (fV 2 av)))))) (a0 _ rr (by rw[<-q];exact Rw g hl ae hn (by rw[q];exact U) hr (ET h) day));refine⟨F,E _ (sI x.2),rr,.inl (UX B (λh=>?_) λh=>?_),sI x.2,by rw[u]⟩
  .rw[if_pos h];have C:kindOf x.1∈bp:=N9
   have G:qD 4 (am 5) (fA eB (fV 0 (fV 1 (fV 3 (fV 5 av))))) F=some (.nx (F.set 4 (some (.dk (f6 (L.map kN) (kN x)) (dc (L.map kN) (L.map k) (kN x) (k x)),true)))):=by
    have H:fA eB (fV 0 (fV 1 (fV 3 (fV 5 av)))) (fN F)=some (k x,true):=a0 [.tup aa,.int ae,.lst (cs.map ba),.int x.2] rr (MX g hl ae hn cs U hr C v);show((fA eB _ (fN F)).bind _)=_;rw[H];simp only[vJ];exact if_pos (c:=(L.map kN).length<sizeLine) (bA (by rw[vH];lia))
   rw[G];have hk:kN x∉L.map kN:=λhm=>by
    obtain⟨y,hy,l⟩:=vO hm;exact i (uR ⟨y,hy,by have:=Sum.inl.inj (show(Sum.inl (y.2:Int):di)=Sum.inl (x.2:Int)from l);lia⟩)
   unfold f6 dc;rw[if_neg hk,if_neg hk];simp[F,E]
  .rw[h,if_neg Z9,uP];rfl)
 rw[vH,take_length]at e;exact ah rr (Rv (a0 [.tup aa,.int ae] rr o) (bv (ρ':=E [] none) rr (bv (cG (ds:=O.map λx=>.int x.2) (by show(fA eA _ _).bind _=_;rw[a0 [.tup aa,.int ae] rr p];rfl) e) (Dc (b:=true) rr))))
end
noncomputable def nK (n:Nat):di:=.inl (n:Int)
noncomputable def Ow:Nat->D:=λ_=>.bl true
noncomputable def m9 (S:LN)(b:Bs):Bool:=b.1.isSome || S.any λn=>decide ((n:Int)=b.2)
noncomputable def gz (S:LN)(p:Nat×List Bs):LN:=if p.2.any (m9 S)=true then S++[p.1]else S
noncomputable def g9 (l:List (Nat×List Bs)):LN:=l.foldl gz []
theorem zf (n:Int):∀S:LN,(eU (S.map nK) (S.map Ow) (.inl n)).isSome=S.any λm=>decide ((m:Int)=n)
 |[]=>rr
 |m::S=>by
  rw[uX,uX,eU,any_cons];by_cases h:(m:Int)=n
  .simp_all[nK]
  .rw[if_neg (show ¬nK m=.inl n from λz=>h (Sum.inl.inj z)),ES h,zf n S];rfl
theorem JH (hw:decide (w=("office" : Str))=false)(S:LN)(b:Bs):wJ [MW w b,.dk (S.map nK) (S.map Ow)]=sO (m9 S b):=by
 rcases b with⟨_|o,n⟩
 .refine ah rr (ak (tY (b1:=false) (aP _ _ rr rr (by simp[of_decide_eq_false hw])) λ_=>aP _ _ rr rr ?_));simp_all[zf]
 .rfl
theorem MZ {α:Type}(l:List α)(f:α->Bool):Qe [.lst (l.map λx=>.bl (f x))]=sO (l.any f):=by
 simp
theorem JJ (h:m∈gz S p):m∈S\/m=p.1:=by
 grind[gz]
theorem ut:∀(l:List (Nat×List Bs))(S:LN)(m:Nat),m∈l.foldl gz S->m∈S\/m∈l.map (·.1)
 |[],_,_,h=>.inl h
 |p::l,S,m,h=>by
  rcases ut l _ m h with h|h
  .grind[JJ]
  .exact .inr (mZ _ h)
abbrev Rs:=Nat×Str×List Bs
noncomputable def Ox (p:Rs):D:=.lst (p.2.2.map (MW p.2.1))
noncomputable def De (p:Rs):Nat×List Bs:=(p.1,p.2.2)
theorem JL (l:List Rs)(hl:l.length<=60)(hw:∀p∈l,decide (p.2.1 = "office")=false)(hb:∀p∈l,p.2.2.length<=100)(hn:(l.map (·.1)).Nodup):C7 [.dk (l.map λp=>nK p.1) (l.map Ox)]=sF (.dk ((g9 (l.map De)).map nK) ((g9 (l.map De)).map Ow)):=by
 let E:LN->OB->OB->DL.Env:=λS M O=>[sF (.dk (l.map λp=>nK p.1) (l.map Ox)),some (.dk (S.map nK) (S.map Ow),true),M,O];have u9:lm (l.map λp=>nK p.1) (l.map Ox)=l.map λp=>.tup [.int (p.1:Int),Ox p]:=by
  unfold lm;rw[zip_map',uO];rfl
 obtain⟨ρ',e,M,O,rfl⟩:=fZ (tg:=DM [2,3]) (g:=Jc) (λj ρ=>∃M O,ρ=E (g9 ((l.take j).map De)) M O) (l.map λp=>.tup [.int (p.1:Int),Ox p]) (E [] none none) ⟨none,none,rr⟩ (by
  rintro j d ρ hd ⟨M,O,rfl⟩;rw[uZ]at hd;obtain⟨p,hp,rfl⟩:=oY hd;have U:=vL hp;have f:l.take (j+1)=l.take j++[p]:=by rw[take_add_one,hp];rfl
  have es:g9 ((l.take (j+1)).map De)=gz (g9 ((l.take j).map De)) (De p):=by
   simp_all[g9]
  have c:p.1∉g9 ((l.take j).map De):=λhm=>by
   have h2:((l.take (j+1)).map (·.1)).Nodup:=List.Nodup.sublist (List.Sublist.map _ (take_sublist _ _)) hn;rw[f,uV,nodup_append]at h2;rcases ut _ _ _ hm with h|h
   .cases h
   .rw[uO]at h;exact h2.2.2 _ h _ V9 rr
  have i:(g9 ((l.take j).map De)).length<=60:=by
   have:∀(q:List (Nat×List Bs))(S:LN),(q.foldl gz S).length<=S.length+q.length:=λq=>by
    induction q with
    |nil=>intro S;exact vT _
    |cons a q k=>
     intro S;refine vR (k _) ?_;unfold gz;split
     .rw[uY,vC,length_nil,vC];lia
     .rw[vC];lia
   have h3:=this ((l.take j).map De) [];rw[vH,length_take,length_nil]at h3;exact vR h3 N9
  generalize g9 ((l.take j).map De)=S at es c i;let F:DL.Env:=E S (sI (p.1:Int)) (some (Ox p,false));have hc:=f8 (fi:=cb (am 3)) (nT:=1) (cap:=[1]) (tg:=dS 0) (fe:=fA wJ (fV 0 (fV 1 av))) (ρ:=F) p.2.2 (MW p.2.1) (λb=>.bl (m9 S b)) rr (by have:=hb p U;lia) λb _=>⟨[some (MW p.2.1 b,false),sF (.dk (S.map nK) (S.map Ow))],rr,false,a0 [MW p.2.1 b,.dk (S.map nK) (S.map Ow)] rr (JH (hw p U) S b)⟩;have m:bD (fA Qe (ao _ av)) F=some (p.2.2.any (m9 S)):=bZ (a0 [.lst (p.2.2.map λb=>.bl (m9 S b))] (a9 hc rr) (MZ _ _));refine⟨F,E (gz S (De p)) (sI (p.1:Int)) (some (Ox p,false)),rr,.inl (UX m (λh=>?_) λh=>?_),_,_,by rw[es]⟩
  .have hk:nK p.1∉S.map nK:=λhm=>by
    obtain⟨y,hy,n⟩:=vO hm;have:=Sum.inl.inj (show(Sum.inl (y:Int):di)=Sum.inl (p.1:Int)from n);exact c (by rw[show p.1=y by lia];exact hy)
   have o:y9 1 (am 2) (fC (.bl true)) F=some (.nx (F.set 1 (some (.dk (f6 (S.map nK) (nK p.1)) (dc (S.map nK) (S.map Ow) (nK p.1) (.bl true)),true)))):=if_pos ⟨rr,bA (by rw[vH];lia)⟩;rw[o];unfold f6 dc gz;rw[if_neg hk,if_neg hk,if_pos (show(De p).2.any (m9 S)=true from h)];simp[F,E,De,Ow]
  .unfold gz;rw[if_neg (show ¬(De p).2.any (m9 S)=true by show ¬p.2.2.any (m9 S)=true;rw[h];decide)];rfl)
 rw[vH,take_length]at e;exact ah rr (bv (ρ':=E [] none none) rr (bv (cG (ds:=l.map λp=>.tup [.int (p.1:Int),Ox p]) (by show some (lm _ _)=_;rw[u9]) e) (Dc (b:=true) rr)))
theorem uu:∀S:LN,tU (S.map nK)=some (S.map λ(n:Nat)=>(n:Int))
 |[]=>rr
 |n::S=>by
  show(tU _).map _=_;rw[uu S];rfl
theorem zg {α M:Type}(g:α->M)(f:M->LI)(x:α):∀l:List α,mW f (g x) (l.map g)=(mW (λa=>f (g a)) x l).map g
 |[]=>rr
 |y::r=>by
  rw[uX,mW,mW];split
  .rw[uX,zg g f x r]
  .rfl
theorem uw {α M:Type}(g:α->M)(f:M->LI):∀l:List α,cL f (l.map g)=(cL (λa=>f (g a)) l).map g
 |[]=>rr
 |x::l=>by
  show mW f _ (cL f _)=(mW _ x (cL _ l)).map g;rw[uw g f l,zg]
theorem Rx (e:f ρ=some (.tup [x,y],b))(hx:aI x=true)(hy:aI y=true)(k:h ((ρ.set i (some (x,false))).set j (some (y,false)))=r):bd (BI [i,j] f) h ρ=r:=by
 simp_all
theorem JM (n:Int)(S:LN):KE (.int n) (S.map λ(m:Nat)=>D.int (m:Int))=S.any λm=>decide ((m:Int)=n):=by
 unfold KE;induction S with
 |nil=>rfl
 |cons m S M=>
  simp_all
def mC (aa:LD)(ae:Int)(x:D×Nat):List Bs:=oR aa ae (aX (aj aa ae)) x
def eE (aa:LD)(ae day:Int):LN:=g9 ((lx aa ae day (cD (aj aa ae))).map λx=>(x.2,mC aa ae x))
def rO (S:LN):LD:=(hG (S.map λ(n:Nat)=>(n:Int))).map .int
theorem Ry (r:D):decide (Ru r = "office")=false:=by
 unfold Ru;split
 .decide +kernel
 rfl
theorem EE (S:LN)(h:S.length<=60):eJ [.lst (S.map λ(n:Nat)=>.int (n:Int))]=lT (rO S):=by
 cases S with
 |nil=>rfl
 |cons n S=>
  have h1:eQ ((n::S).map λ(n:Nat)=>D.int (n:Int))=none:=rr;have h2:∀l:List _,fU (l.map λ(n:Nat)=>D.int (n:Int))=some (l.map λ(n:Nat)=>(n:Int)):=λl=>by
   induction l with
   |nil=>rfl
   |cons a l M=>simp_all[fU]
  unfold eJ;simp only[h1,h2 _];rw[if_pos (by rw[vH];lia)];rfl
theorem xa (h:kindOf r∈bp):aJ r=false:=by
 have:∀k∈bp,decide (k = "root")=false:=H9
 exact this _ h
section
variable {aa:LD}(g:∀r∈aa,b7 r) (hl:aa.length<=30) (ae:Int) (hn:((bw (aj aa ae)).map (aM 0)).Nodup) (ho:(cD (aj aa ae)).length<=60)
include hl
theorem JN (x:D×Nat):(mC aa ae x).length<=60:=by
 unfold mC oR;split
 .split
  .exact(by decide:1<=60)
  .exact uM _
 .unfold MU;rw[(aC _ _).length_eq];exact CZ hl _ _ _ _
theorem ki (day:Int):(eE aa ae day).length<=60:=by
 have:∀(q:List _)(S:List _),(q.foldl gz S).length<=S.length+q.length:=λq=>by
  induction q with
  |nil=>intro S;exact vT _
  |cons a q M=>
   intro S;refine vR (M _) ?_;unfold gz;split
   .rw[uY,vC,length_nil,vC];lia
   .rw[vC];lia
 have h3:=this ((lx aa ae day (cD (aj aa ae))).map λx=>(x.2,mC aa ae x)) [];have h4:(cD (aj aa ae)).length<=30:=by
  unfold cD;rw[(aC _ _).length_eq];exact vR (vM _ _) (vR (bT _ _) hl)
 have h5:(lx aa ae day _).length<=30:=vR (vM _ _) h4;rw[vH,length_nil]at h3;exact vR h3 N9
include g hn ho
theorem zh (day:Int):iR [.tup aa,.int ae,.int day]=lT (rO (eE aa ae day)):=by
 have M:=JG g hl ae hn ho day;have h4:(lx aa ae day _).length<=60:=vR (vM _ _) ho;have es:=JL ((lx aa ae day _).map λx=>(x.2,Ru x.1,mC aa ae x)) (by rw[vH];exact h4)
  (λp hp=>by obtain⟨x,_,rfl⟩:=vO hp;exact Ry _) (λp hp=>by obtain⟨x,_,rfl⟩:=vO hp;exact vR (JN hl ae x) Z9)
  (by rw[uO];exact List.Nodup.sublist (List.Sublist.map _ filter_sublist) (nU (dP aa ae)))
 rw[uO,uO,uO]at es;refine ah rr (ak (a0 [_] (a9 (a0 [_] (a9 (a0 _ rr M) rr) es) rr) ?_));show(tU ((eE aa ae day).map nK)).bind _=_;rw[uu,vJ,if_pos (by grind[ki])];rfl
end
theorem Df (n:Nat)(S:LN):(S.any λm=>decide ((m:Int)=(n:Int)))=decide (n∈S):=by
 grind
theorem zi (h:aH 40 d=true):xT d d=sO false:=by
 unfold xT;rw[if_pos ⟨h,h⟩,mo 40 _ h];rfl
theorem JP (aa:LD)(ae:Int):bw (aj aa ae)=aa.filter λv=>aJ v && decide (a5 v<=ae):=by
 unfold bw aj;rw[List.filter_filter];have:∀(l:List (D×Nat))(q:D->Bool),(l.filter λx=>q x.1).map _=(l.map _).filter q:=λl q=>by rw[List.filter_map];rfl
 refine(this _ λv=>aJ v && decide (a5 v<=ae)).trans ?_;rw[List.zipIdx_map_fst]
theorem JQ (aa:LD)(ae:Int):((bw (aj aa ae)).map (aM 0)).Sublist (Ot aa):=by
 rw[JP];refine List.Sublist.map _ ?_;have:(aa.filter λv=>aJ v && decide (a5 v<=ae))=(aa.filter aJ).filter λv=>decide (a5 v<=ae):=by simp_all[Bool.and_comm]
 rw[this];exact filter_sublist
def mD (S:LN):LN:=cL (λn:Nat=>[(n:Int)]) S
theorem Na (S:LN):rO S=(mD S).map λ(n:Nat)=>.int (n:Int):=by
 simp_all[rO,hG,mD,uw]
theorem kj {m:Nat}{S:LN}:m∈mD S↔m∈S:=(aC _ _).mem_iff
def PW (q:D)(x:Int×OI)(w:D):Prop:=∃a k d b,∃m:Nat,∃M,(k=("paper" : Str)\/k = "like")/\q=row a k (.int d::.str b::.int m::fH x::w::M)/\(w=.non\/∃s,w=.str s)
def xc (r:D):Prop:=kindOf r=("paper" : Str)\/kindOf r = "like"->∃x w,PW r x w
inductive Pb (aa:List D):Nat->Nat->Nat->Prop
 |here (n:Nat) (r:D) (x:Int×Option Int) (w:D) (h:aa[n]? = some r) (p:PW r x w):Pb aa 0 n n
 |copy (k n m e:Nat) (a d:Int) (b:Str) (h:aa[n]? = some (row a ("copy" : Str) [.int d,.str b,.int m])) (p:Pb aa k m e):Pb aa (k+1) n e
def pend (aa:LD):Nat->Nat->Nat
 |0,n=>n
 |k+1,n=>match aa[n]? with
  |some r=>if kindOf r = "copy" then pend aa k (gy 2 r).toNat else n
  |none=>n
theorem PW.nocopy (p:PW r x w):¬kindOf r = "copy":=by
 obtain⟨a,k,d,b,m,M,hk,rfl,_⟩:=p;have:∀k:Str,k = "paper" \/ k = "like"->¬k = "copy":=by rintro k (rfl|rfl)<;>decide +kernel
 exact this k hk
theorem Pb.to (p:Pb aa k n e):∃r x w,aa[e]? = some r/\PW r x w:=by
 induction p with
 |here n r x w h p=>exact⟨r,x,w,h,p⟩
 |copy k n m e a d b h p M=>exact M
theorem Pb.pend (p:Pb aa k n e):∀f,k<=f->pend aa f n=e:=by
 induction p with
 |here n r x w h p=>
  intro f _;cases f with
  |zero=>rfl
  |succ f=>unfold Lw.pend;rw[h];exact if_neg p.nocopy
 |copy k n m e a d b h p M=>
  intro f hf;obtain⟨f,rfl⟩:∃j,f=j+1:=⟨f - 1,N9⟩;unfold Lw.pend;rw[h];exact(if_pos rr).trans (M f N9)
def SI (aa:LD)(ae:Int)(S:LN):Prop:=∀n∈S,∃r,aa[n]? = some r/\a5 r<=ae/\kindOf r∈bp/\(kindOf r∈ci->∃k e,k<=S.length/\Pb aa k n e)
section
variable {aa:LD}(g:∀r∈aa,b7 r) (gw:∀r∈aa,xc r) (ae:Int)
include g gw
theorem Nb {S:LN}(s:SI aa ae S){x:D×Nat}(hx:aa[x.2]? = some x.1)(hk:a5 x.1<=ae)(hb:kindOf x.1∈bp):SI aa ae (gz S (x.2,mC aa ae x)):=by
 unfold gz;split
 .rename_i hs;intro n hn;rcases mem_append.mp hn with hn|hn
  .obtain⟨r,h1,h2,h3,h4⟩:=s n hn;exact⟨r,h1,h2,h3,λhp=>by obtain⟨k,e,h5,M⟩:=h4 hp;exact⟨k,e,by rw[uY];lia,M⟩⟩
  .cases uS hn
   refine⟨x.1,hx,hk,hb,λhp=>?_⟩;by_cases U:kindOf x.1 = "copy"
   .obtain⟨a,d,b,m,er⟩:=rM (g _ (vL hx)) U;have hm:gy 2 x.1=m:=by rw[er];rfl
    unfold mC oR at hs;rw[if_pos U,hm,Int.toNat_natCast]at hs;cases hv:m7 _ _ _ _ m with
    |false=>rw[hv]at hs;cases hs
    |true=>
     rw[hv]at hs;have O:=by
      have c:(S.any λn=>decide ((n:Int)=(m:Int)))=true:=by simpa [m9]using hs
      rw[Df]at c;exact ET c
     obtain⟨q,h1,h2,h3,h4⟩:=s m O;unfold m7 at hv;obtain⟨k,e,h5,M⟩:=h4 (by
      simp_all)
     exact⟨k+1,e,by simp_all,.copy k _ m e a d b (by rw[hx,<-er]) M⟩
   .obtain⟨y,w,p⟩:=gw _ (vL hx) (by
     simp_all[ci])
    exact⟨0,x.2,uM _,.here _ _ _ _ hx p⟩
 .exact s
theorem Dg:∀(l:KL)(S:LN),(∀x∈l,aa[x.2]? = some x.1/\a5 x.1<=ae/\kindOf x.1∈bp)->SI aa ae S->SI aa ae ((l.map λx=>(x.2,mC aa ae x)).foldl gz S)
 |[],_,_,s=>s
 |x::l,S,h,s=>by
  obtain⟨h1,h2,h3⟩:=h x (mX ..);exact Dg l _ (λy hy=>h y (mZ _ hy)) (Nb g gw _ s h1 h2 h3)
theorem zj (day:Int):SI aa ae (eE aa ae day):=by
 refine Dg g gw _ _ [] (λx hx=>?_) (λn hn=>nomatch hn);obtain⟨h1,h2⟩:=vN hx;have h3:=(vN ((aC _ _).mem_iff.mp h1)).1;exact⟨aT h3,ET (vN h3).2,ET (vB _ _ ▸ h2).1⟩
end
theorem Pb.at_ (p:Pb aa k n e):∃r,aa[n]? = some r:=by
 cases p with
 |here n r x w h p=>exact⟨_,h⟩
 |copy k n m e a d b h p=>exact⟨_,h⟩
theorem PW.word (p:PW r x w):aS [r]=sS (kindOf r):=by
 obtain⟨a,k,d,b,m,M,hk,rfl,_⟩:=p;exact bG _ _ _
theorem PW.str (p:PW r x w):ay [r,.str "stretch"]=some (fH x,false):=by
 obtain⟨a,k,d,b,m,M,hk,rfl,_⟩:=p;exact bf (i:=3) (by rcases hk with rfl|rfl<;>exact bX) rr
theorem PW.whom (p:PW r x w):ay [r,.str "whom"]=some (w,false):=by
 obtain⟨a,k,d,b,m,M,hk,rfl,_⟩:=p;exact bf (i:=4) (by rcases hk with rfl|rfl<;>exact bX) rr
theorem PW.box (p:PW r x w):FJ r=false:=by
 obtain⟨a,k,d,b,m,M,hk,rfl,_⟩:=p;rfl
theorem PW.st (p:PW r x w):dh r=x:=by
 obtain⟨a,k,d,b,m,M,hk,rfl,_⟩:=p;unfold dh;have:∀k:Str,k = "paper" \/ k = "like"->¬k = "leave":=by rintro k (rfl|rfl)<;>decide +kernel
 rw[iA,if_neg (this k hk)];exact mw rr
noncomputable abbrev bE (aa:LD)(n0:Nat)(r:D):DL.Env:=[sT aa,sI n0,some (r,false)]
section
variable {aa:LD}(g:∀r∈aa,b7 r)
include g
theorem Rz {k n e:Nat}(p:Pb aa k n e)(n0:Nat):∀(r:D)(fuel:Nat),aa[n]? = some r->k<fuel->∃q,aa[e]? = some q/\cA (bD (f2 je (fA aS (fV 2 av)) (fS "copy"))) iZ fuel (bE aa n0 r)=some (.nx (bE aa n0 q)):=by
 induction p with
 |here n q x w h p=>
  intro r fuel hr hf;obtain⟨fuel,rfl⟩:∃j,fuel=j+1:=⟨fuel - 1,N9⟩;cases h.symm.trans hr
  refine⟨q,h,?_⟩;rw[cA,bB (a0 [q] rr p.word) (ES p.nocopy)]
 |copy k n m e a d b h p O=>
  intro r fuel hr hf;obtain⟨fuel,rfl⟩:∃j,fuel=j+1:=⟨fuel - 1,N9⟩;cases h.symm.trans hr
  obtain⟨M,h2⟩:=p.at_;obtain⟨q,h3,h4⟩:=O M fuel h2 N9;refine⟨q,h3,?_⟩;have U:f2 eG (am 0) (fA ay (fV 2 (ao (fS "of") av))) (bE aa n0 (row a ("copy" : Str) [.int d,.str b,.int m]))=some (M,false):=aP _ (.int m) rr (a0 _ rr (bf (i:=2) bX rr)) (by simp[aY h2]);have c:iZ _=some _:=jy U (g _ (vL h2)).flat;rw[cA,bB (a0 _ rr (bG _ _ _)) (xw rr)];rw[c];exact h4
theorem EF {k n e:Nat}(p:Pb aa k n e)(hk:k<=60):∃q x w,aa[e]? = some q/\PW q x w/\dM [.tup aa,.int n]=some (q,false):=by
 obtain⟨r,hr⟩:=p.at_;obtain⟨q,hq,O⟩:=Rz g p n r 1000 hr N9;obtain⟨U,x,w,h,M⟩:=p.to;cases h.symm.trans hq
 exact⟨q,x,w,hq,M,ah rr (gA r (aP _ _ rr rr (by simp[aY hr])) (g _ (vL hr)).flat (bv O (gD rr M.box)))⟩
end
def R0 (aa:LD)(n:Nat):Bool:=match aa[n]? with
 |some r=>decide (kindOf r∈ci)
 |none=>false
def Wr (aa:LD)(n:Nat):Int×OI:=dh (aa.getD (pend aa 60 n) .non)
def kT (aa:LD)(ae day:Int):LN:=((mD (eE aa ae day)).filter (R0 aa)).filter λn=>m4 day (Wr aa n)
theorem AX (n:Nat)(S:LN):fj (.int n) (.lst (S.map λ(m:Nat)=>.int (m:Int)))=sO (!decide (n∈S)):=by
 have M:(S.map λ(n:Nat)=>D.int (n:Int)).all gT=true:=by
  simp
 simp only[fj,fz,vJ];rw[if_pos ⟨rr,M⟩,JM,Df]
section
variable {aa:LD}(g:∀r∈aa,b7 r) (gw:∀r∈aa,xc r) (hl:aa.length<=30) (ae:Int) (hn:((bw (aj aa ae)).map (aM 0)).Nodup) (ho:(cD (aj aa ae)).length<=60)
include g gw hl
theorem rP {day:Int}{n:Nat}(h:n∈eE aa ae day)(hp:R0 aa n=true):∃q x w e k,k<=60/\Pb aa k n e/\aa[e]? = some q/\PW q x w/\dM [.tup aa,.int n]=some (q,false)/\Wr aa n=x:=by
 obtain⟨r,h1,h2,h3,h4⟩:=zj g gw _ _ n h;unfold R0 at hp;rw[h1]at hp;obtain⟨k,e,h5,M⟩:=h4 (ET hp);have O:=ki hl ae day;obtain⟨q,x,w,hq,U,a⟩:=EF g M (vR h5 O);refine⟨q,x,w,e,k,vR h5 O,M,hq,U,a,?_⟩;unfold Wr;rw[M.pend 60 (vR h5 O),getD_eq_getElem?_getD,hq];exact U.st
include hn ho
theorem AY (day:Int):nF [.tup aa,.int ae,.int day]=lT ((kT aa ae day).map λ(n:Nat)=>.int (n:Int)):=by
  have M:=ki hl ae day;have hs:(mD (eE aa ae day)).length<=60:=by unfold mD;rw[(aC _ _).length_eq];exact M
  have h1:=dH (fi:=cb (fA iR (fV 0 (fV 1 (fV 2 av))))) (nT:=1) (cap:=[0,1]) (tg:=dS 0) (c:=bD (fA cy (fV 1 (fV 2 (fV 0 av))))) (fe:=am 0)
    (ρ:=[sT aa,sI ae,sI day,none]) (mD (eE aa ae day)) (λ(n:Nat)=>.int (n:Int)) (R0 aa) (λ(n:Nat)=>.int (n:Int))
    (by show(fA iR _ _).bind _=_;rw[a0 [.tup aa,.int ae,.int day] rr (zh g hl ae hn ho day),Na];rfl) N9 λx hx=>by
      obtain⟨r,h1,h2,h3,h4⟩:=zj g gw ae day x (kj.mp hx);have:=m6 h1 (g _ (vL h1)) ae;rw[xw h2,Bool.true_and]at this;have e:R0 aa x=decide (kindOf r∈ci):=by unfold R0;rw[h1]
      rw[<-e]at this;exact⟨_,rr,bZ (a0 [.tup aa,.int ae,.int x] rr this),λ_=>⟨false,rr⟩⟩
  have O:aQ (((mD (eE aa ae day)).filter (R0 aa)).map λ(n:Nat)=>D.int (n:Int))=true:=bL λd hd=>by obtain⟨x,_,rfl⟩:=vO hd;rfl
  refine ah rr (b9 h1 O (ak ?_));refine dH (fi:=cb (am 3)) (nT:=1) (cap:=[2,0]) (tg:=dS 0) (fe:=am 0)
     _ (λ(n:Nat)=>.int (n:Int)) (λn=>m4 day (Wr aa n)) (λ(n:Nat)=>.int (n:Int)) V9 (vR (vM _ _) N9) λn hn=>?_
  obtain⟨h2,h3⟩:=vN hn;obtain⟨q,x,w,e,k,hk,b,hq,U,a,e2⟩:=rP g gw hl ae (kj.mp h2) h3;refine⟨[sI n,sI day,sT aa],rr,bZ (a0 [.int day,fH x] (aV rr (aV (a0 [q,.str "stretch"] (aV (a0 [.tup aa,.int n] rr a) rr) U.str) rr)) ?_),λ_=>⟨false,rr⟩⟩;rw[e2];exact wP _ _ _
end
def EG (K:KL)(M:Nat)(r:D)(day:Int)(c:D):Bool:=decide (kindOf c = "call") && (decide (gy 2 c=M) && (decide (aO c<=day) && (wT K c && MV K c r)))
def EH (K:KL)(day:Int)(x:D×Nat):Bool:=(wT K x.1 && decide (aO x.1<=day)) && (K.filter λy=>EG K x.2 x.1 day y.1).isEmpty
noncomputable def JR (K:KL)(x:D×Nat)(n:Nat):Bool:=K.any λy=>decide (y.2=n) && (decide (kindOf y.1∈ci) && kR y x)
def Vg (K:KL)(x:D×Nat):List Bs:=if kindOf x.1 = "copy" then (if JR K x (gy 2 x.1).toNat=true then [(none,gy 2 x.1)]else [])else MU K (aX K) x.1 x.2
def JU (K:KL)(day:Int):LN:=g9 (((cD K).filter λx=>decide (kindOf x.1∈bp) && EH K day x).map λx=>(x.2,Vg K x))
theorem ux {aa:LD}{ae:Int}{r:D}(h:a5 r<=ae):iU aa ae r=wT (aj aa ae) r:=by
 unfold iU wT;rw[xw h];rfl
theorem JV (aa:LD)(ae:Int)(x:D×Nat)(n:Nat):m7 aa ae x.1 x.2 n=JR (aj aa ae) x n:=by
 rw[Bool.eq_iff_iff];unfold m7 JR;rw[List.any_eq_true];constructor
 .intro h;split at h
  .cases h
  .rename_i q hq;rw[vB,vB]at h;refine⟨(q,n),List.mem_filter.mpr ⟨List.mem_zipIdx_iff_getElem?.mpr hq,h.1.1⟩,?_⟩;simp_all
 .rintro⟨y,hy,h⟩;rw[vB]at h;have e:=ET h.1;subst e;have hk:=(vN hy).2;rw[aT hy];simp_all
theorem nW (aa:LD)(ae day:Int):eE aa ae day=JU (aj aa ae) day:=by
 have kn:∀x∈aj aa _,a5 _<=ae:=λx hx=>ET (vN hx).2;have h1:∀x∈aj _ _,kindOf _∈bp->ED _ _ _ x=EH _ _ x:=λx hx hb=>by
  unfold ED EH wZ;rw[if_pos ⟨kn x hx,hb⟩,List.isEmpty_map,ux (kn x hx)];rw[filter_congr λy hy=>(show EB _ _ _ _ _ _=EG _ _ _ day y.1 by unfold EB EG;rw[ux (kn y hy)])]
 unfold eE JU lx;rw[filter_congr λx hx=>by
  have hm:=(vN ((aC _ _).mem_iff.mp hx)).1;by_cases hb:kindOf x.1∈bp
  .rw[h1 x hm hb]
  .simp_all]
 congr 1;refine List.map_congr_left λx _=>?_;unfold mC oR Vg;rw[JV]
theorem R1 (l:LD)(a:Nat):jf l none (some (a:Int))=l.take a:=by
 show(l.drop 0).take (min _ _ - 0)=_;simp
theorem R3 (l:LD)(a:Nat):jf l (some (a:Int)) none=l.drop a:=by
 show(l.drop (min a _)).take (l.length - min a _)=_;rw[List.take_of_length_le (by rw[length_drop];lia)];simp
theorem AZ (ps:LS)(hp:ps.length<=900)(a:Nat)(z:Str):ua [.tup (ps.map .str),.int (a:Int),.str z]=some (.tup ((ps.take a++z::ps.drop (a+1)).map .str),false):=by
 have M:sr (am 0) eO (dE (am 1)) [some (.tup (ps.map .str),false),some (.int (a:Int),false),some (.str z,false)]=some (.tup ((ps.take a).map .str),false):=by
  show some _=_;rw[R1,List.map_take]
 have e2:sr (am 0) (dE (f2 dZ (am 1) (fI 1))) eO [some (.tup (ps.map .str),false),some (.int (a:Int),false),some (.str z,false)]=some (.tup ((ps.drop (a+1)).map .str),false):=by
  show some (D.tup (jf _ (some ((a+1:Nat):Int)) _),false)=_;rw[R3,map_drop]
 refine ah rr (ak (eW (x:=.tup ((ps.take a++[z]).map .str)) (b1:=false) (eW M (aE rr (aW _ V9)) ?_) e2 ?_))
 .show(if((ps.take a).map _).length+[D.str z].length<=sizeLine then some _ else none)=_;rw[if_pos (bg Y9),uV];rfl
 .show(if((ps.take a++[z]).map _).length+((ps.drop _).map _).length<=sizeLine then some _ else none)=_;rw[if_pos (bg Y9),<-uV,append_assoc];rfl
theorem Nc (l:LD)(x:D):l5 (l++[x]) (-1)=some x:=by
 unfold l5 EZ;rw[uY,length_singleton,if_neg Z9,if_pos N9,show(-1+((l.length+1:Nat):Int)).toNat=l.length by lia];simp
inductive Rq:D->Prop
 |non (r:D) (h:kindOf r∉ci):Rq r
 |paper (h:Int) (ag:List D) (ps:List Str) (e:ag[5]? = some (.tup (ps.map .str))) (l:ps.length<=3):Rq (row h "paper" ag)
 |like (h:Int) (ag:List D) (m c:Nat) (z:Str) (e:ag[5]? = some (.int m)) (e2:ag[6]? = some (.tup [.tup [.int (c:Int),.str z]])):Rq (row h "like" ag)
 |copy (h:Int) (ag:List D) (m:Nat) (e:ag[2]? = some (.int m)):Rq (row h "copy" ag)
def Gv (v:D):Prop:=aH 20 v=true
noncomputable abbrev pE (aa M:LD)(q:LS)(O U a:OB):DL.Env:=[sT aa,sL M,sT (q.map .str),O,U,a]
theorem Ba (z:Str)(n:Nat):Gv (.tup [.str z,.int (n:Int)]):=by simp[Gv,aH]
abbrev PO:=LS ⊕ D
def Vh (r:Option Res)(aa M:LD)(O:OB):PO->Prop
 |.inl q=>∃U a,r=some (.nx (pE aa M q O U a))\/r=some (.ct (pE aa M q O U a))
 |.inr v=>r=some (.rt v false)
def XE (n:Nat):PO->Prop
 |.inl q=>q.length<=n
 |.inr v=>Gv v
section
variable {aa:LD}(hq:∀r∈aa,Rq r) (g:∀r∈aa,b7 r)
include hq g
theorem R4 (i:Nat)(hi:i<aa.length)(q:LS)(hl:q.length<=500):∃o:PO,XE (q.length+1) o/\∀(M:LD)(O U:OB),Vh (bY (pE aa M q (sI i) O U)) aa M (sI i) o:=by
 obtain⟨r,hr⟩:∃r,aa[i]? = some r:=⟨_,vU hi⟩;have ei:∀ {ρ:DL.Env},ρ[0]? = some (sT aa)->ρ[3]? = some (sI i)->f2 eG (am 0) (am 3) ρ=some (r,false):=λ{ρ} h0 h3=>aP (.tup aa) (.int i) (by simp[h0]) (by simp[h3]) (by simp[aY hr]);have skip:∀k:Str,aS [r]=sS k->decide (k = "like")=false->∃o:PO,XE (q.length+1) o/\∀(M:LD)(O U:OB),Vh (bY (pE aa M q (sI i) O U)) aa M (sI i) o:=λk hw hk=>⟨.inl q,by show q.length<=_;lia,λM O U=>⟨O,U,.inr (by
  have t:bD (f2 xT (fA aS (ao (f2 eG (am 0) (am 3)) av)) (fS "like")) (pE aa M q (sI i) O U)=some true:=(rL (a:=k) (bb:=false) (a0 [r] (aV (ei rr rr) rr) hw)).trans (by rw[hk];rfl);show bd (p5 _ Gu eN) _ _=_;unfold bd p5;rw[t];rfl)⟩⟩
 have hR:=hq r (vL hr);cases hR with
 |non r h=>exact skip (kindOf r) (gp (g r (vL hr)).c) (ES λz=>h (by rw[z];decide +kernel))
 |paper h ag ps e l=>exact skip "paper" (bG _ _ _) H9
 |copy h ag m e=>exact skip "copy" (bG _ _ _) H9
 |like h ag m c z e e2=>
  have t:∀M O U,bD (f2 xT (fA aS (ao (f2 eG (am 0) (am 3)) av)) (fS "like")) (pE aa M q (sI i) O U)=some false:=λM O U=>(rL (a:="like") (bb:=false) (a0 [row h "like" ag] (aV (ei rr rr) rr) (bG _ _ _))).trans (by rw[xw rr];rfl);have f:∀M O U,cb (fA ay _) _=some [.tup [.int (c:Int),.str z]]:=λM O U=>by
   have j:fA ay (ao (f2 eG (am 0) (am 3)) (ao (fS "changes") av)) (fN (pE aa M q (sI i) O U))=some _:=a0 [row h "like" ag,.str "changes"] (aV (aP (.tup aa) (.int i) rr rr (by simp[aY hr])) rr) (bf (i:=6) bX e2);unfold cb;rw[j];rfl
  have d:∀M,bD (f2 Ss (am 4) (fA pR (fV 2 av))) (pE aa M q (sI i) (sI (c:Int)) (sS z))=some (decide ((q.length:Int)<c)):=λM=>bZ (aP (.int (c:Int)) (.int (q.length:Int)) rr (a0 [.tup (q.map .str)] rr V9) rr);have b:∀M O U,bY (pE aa M q (sI i) O U)=cB (DM [4,5]) c8 [.tup [.int (c:Int),.str z]] (pE aa M q (sI i) O U):=λM O U=>by
   refine aw (t M O U) ?_;show(cb _ (fN (pE aa M q (sI i) O U))).bind _=_;rw[f];rfl
  by_cases hc:(q.length:Int)<c
  .rw[xw hc]at d;refine⟨.inr (.tup [.str "beyond",.int (i:Int)]),Ba "beyond" i,λM O U=>?_⟩;have b1:c8 _=some _:=aU (d M) (ak (a0 [.str "beyond",.int (i:Int)] rr (aW _ V9)));show bY _=_;rw[b,mR];show(match c8 (pE aa M q (sI i) (sI (c:Int)) (sS z)) with|some (.nx ρ')=>_|some (.ct ρ')=>_|some (.bk ρ')=>_|r=>r)=_;rw[b1]
  .rw[ES hc]at d;refine⟨.inl (q.take c++z::q.drop (c+1)),by show(q.take c++z::q.drop (c+1)).length<=_;simp<;>lia,λM O U=>⟨sI (c:Int),sS z,.inl ?_⟩⟩
   have b1:c8 _=some _:=aw (d M) (jy (a0 _ rr (AZ q N9 c z)) (show aQ _=true from bo _));rw[b,mR];show(match c8 (pE aa M q (sI i) (sI (c:Int)) (sS z)) with|some (.nx ρ')=>_|some (.ct ρ')=>_|some (.bk ρ')=>_|r=>r)=_;rw[b1];rfl
def XF (r:Option Res)(aa M:LD):PO->Prop
 |.inl q=>∃O U a,r=some (.nx (pE aa M q O U a))
 |.inr v=>r=some (.rt v false)
theorem JX:∀(l:LN)(q:LS),(∀i∈l,i<aa.length)->q.length+l.length<=400->∃o:PO,XE 400 o/\∀(M:LD)(a O U:OB),XF (cB (dS 3) bY (l.map λ(i:Nat)=>.int (i:Int)) (pE aa M q a O U)) aa M o
 |[],q,_,hl=>⟨.inl q,by show q.length<=400;simp_all,λM a O U=>⟨a,O,U,jo ..⟩⟩
 |i::l,q,hi,hl=>by
  rw[vC]at hl;have b:∀M a O U,cB (dS 3) _ ((i::l).map _) (pE aa _ q a O U)=match bY (pE _ M q (sI i) O U) with
    |some (.nx _)=>cB _ _ _ _
    |some (.ct ρ')=>cB _ _ _ _
    |some (.bk _)=>some _
    |r=>r:=λM a O U=>by rfl
  obtain⟨o,ho,h⟩:=R4 hq g i (hi i (mX ..)) q N9;cases o with
  |inr v=>exact⟨.inr v,ho,λM a O U=>by
    have h1:=h M O U;show cB _ _ _ _=_;rw[b,h1]⟩
  |inl c=>
   have ho:c.length<=q.length+1:=ho;obtain⟨d,e,h2⟩:=JX l c (λj hj=>hi j (mZ _ hj)) N9;refine⟨d,e,λM a O U=>?_⟩;obtain⟨f,k,h1|h1⟩:=h _ O U
   .rw[b,h1];exact h2 _ _ _ _
   .rw[b,h1];exact h2 _ _ _ _
theorem Nd (p:LN)(m:Nat)(hp:∀i∈p++[m],i<aa.length)(hl:p.length<=300){h:Int}{ag:LD}{ps:LS}(hm:aa[m]? = some (row h "paper" ag))(hr:ag[5]? = some (.tup (ps.map .str)))(h3:ps.length<=3):∃v,Gv v/\gd [.tup aa,.lst ((p++[m]).map λ(i:Nat)=>.int (i:Int))]=some (v,false):=by
 have M:fA ay (ao (f2 eG (am 0) (f2 eG (am 1) (f1 Ga (fI 1)))) (ao (fS "pieces") av)) [sT aa,sL ((p++[m]).map λ(i:Nat)=>D.int (i:Int)),none,none,none,none]=sT (ps.map .str):=by
  refine a0 [row h "paper" ag,.str "pieces"] (aV (aP (.tup aa) (.int (m:Int)) rr (aP _ (.int (-1)) rr rr ?_) (by simp[aY hm])) rr) (bf (i:=5) bX hr);show(l5 _ (-1)).map _=_;rw[uV,show List.map (λ(n:Nat)=>D.int (n:Int)) [m]=[D.int (m:Int)]from rr,Nc];rfl
 have ei:M2 (am 1) (fN (pE aa ((p++[m]).map λ(i:Nat)=>D.int (i:Int)) ps none none none))=some ((p++[m]).reverse.map λ(i:Nat)=>.int (i:Int)):=by
  show some _=_;simp
 obtain⟨o,ho,ha⟩:=JX hq g (p++[m]).reverse ps (λi hi=>hp i (List.mem_reverse.mp hi)) (by rw[List.length_reverse,uY,length_singleton];lia);have ha:=ha ((p++[m]).map λ(i:Nat)=>D.int (i:Int)) none none none;cases o with
 |inl q=>
  obtain⟨O,U,a,e⟩:=ha;exact⟨_,show aH 20 _=true by simp,ah rr (gA (.tup (ps.map .str)) M (show aQ _=true from bo _) (bv (cG ei e) (ak (a0 [.str "words",.tup (q.map .str)] rr (aW _ V9)))))⟩
 |inr v=>
  refine⟨v,ho,ah rr (gA (.tup (ps.map .str)) M (show aQ _=true from bo _) (HU ?_))⟩;show(M2 (am 1) (fN (pE aa _ ps none none none))).bind _=_;rw[ei];exact ha
end
theorem hW:∀xs:LI,fU (xs.map .int)=some xs
 |[]=>rr
 |x::xs=>by
  show(fU _).map _=_;rw[hW xs];rfl
theorem Dh {α:Type}(p q:α->Bool):∀(l:List α),(∀x∈l,p x=true->q x=true)->∀x∈l,q x=true->p x=false->(l.filter p).length<(l.filter q).length
 |[],_,x,hx,_,_=>nomatch hx
 |y::l,h,x,hx,hq,hp=>by
  have M:(l.filter p).length<=(l.filter q).length:=by
   rw[<-List.countP_eq_length_filter,<-List.countP_eq_length_filter];exact List.countP_mono_left λz hz=>h z (mZ _ hz)
  rcases vP hx with rfl|hx
  .grind
  .have O:=Dh p q l (λz hz=>h z (mZ _ hz)) x hx hq hp;grind
noncomputable abbrev wE (aa:LD)(ae:Int)(n0:Nat)(M:LN)(m:Nat):DL.Env:=[sT aa,sI ae,sI n0,lT (M.map λ(i:Nat)=>.int (i:Int)),sI m]
def Vi:FE:=Hx (fS "ring") (fA eJ (ao (sr (am 3) (dE (f2 nv (am 3) (am 4))) eO) av))
abbrev wC:FT:=bD (f2 fj (am 4) (am 3))
abbrev WF (fuel:Nat):FS:=bd (cA wC dJ fuel) (pf Vi)
section
variable {aa:LD}{ae:Int}{n0 a:Nat}{fq:LN}
theorem JY:wC (wE aa ae n0 fq a)=some (!decide (a∈fq)):=bZ (aP _ _ rr rr (AX a _))
theorem R5 {v:D}{b:Bool}{fuel:Nat}(h:a∉fq)(e:dJ (wE aa ae n0 fq a)=some (.rt v b)):WF (fuel+1) (wE aa ae n0 fq a)=some (.rt v b):=by
 refine HU ?_;rw[cA,JY,ES h];rw[Bool.not_false];rw[e]
theorem XG {ρ:DL.Env}{fuel:Nat}(h:a∉fq)(e:dJ (wE aa ae n0 fq a)=some (.nx ρ)):WF (fuel+1) (wE aa ae n0 fq a)=WF fuel ρ:=by
 have:cA wC dJ (fuel+1) (wE aa ae n0 fq a)=cA wC dJ fuel ρ:=by
  rw[cA,JY,ES h];rw[Bool.not_false];rw[e]
 show bd _ _ _=bd _ _ _;unfold bd;rw[this]
theorem JZ {fuel i:Nat}(h:a∈fq)(hl:fq.length<=60)(hi:(fq.map λ(n:Nat)=>(n:Int)).findIdx (· == (a:Int))=i):WF (fuel+1) (wE aa ae n0 fq a)=some (.rt (.tup [.str "ring",.lst (rO (fq.drop i))]) true):=by
 have O:cA wC dJ (fuel+1) (wE aa ae n0 fq a)=some (.nx (wE aa ae n0 fq a)):=by
  rw[cA,JY,xw h];rfl
 have M:=hi ▸ List.findIdx_lt_length_of_exists ⟨(a:Int),uR ⟨a,h,rr⟩,V9⟩;have U:f2 nv (am 3) (am 4) (wE aa ae n0 fq a)=sI (i:Int):=by
  refine aP _ (.int (a:Int)) rr rr ?_;have b:(fq.map λ(n:Nat)=>D.int (n:Int))=(fq.map λ(n:Nat)=>(n:Int)).map .int:=by rw[uO];rfl
  rw[b];simp only[nv,hW,vJ];rw[hi,if_pos M]
 have e2:sr (am 3) (dE (f2 nv (am 3) (am 4))) eO (wE aa ae n0 fq a)=lT ((fq.drop i).map λ(n:Nat)=>.int (n:Int)):=by
  have ho:dE (f2 nv (am 3) (am 4)) (wE aa ae n0 fq a)=some (some (i:Int)):=by unfold dE;rw[U]
  unfold sr;rw[show am 3 _=some _ from rr,ho,show eO _=some none from rr];show some _=_;rw[R3,map_drop]
 refine bv O (ak ?_);have c:fA eJ (ao _ av) _=lT _:=a0 _ (a9 e2 rr) (EE _ (by rw[length_drop];lia));show((fS "ring" (wE aa ae n0 fq a)).bind λx=>(fA eJ _ _).bind _)=_;rw[c];rfl
end
noncomputable def left (aa:LD)(p:LN):Nat:=((List.range aa.length).filter λi=>decide (i∉p)).length
theorem Di {aa:LD}{p:LN}{a:Nat}(ha:a<aa.length)(h:a∉p):left aa (p++[a])<left aa p:=by
 refine Dh _ _ _ (λx _ hx=>?_) a (mem_range.mpr ha) (xw h) (ES V9);grind
theorem Dj (S:LN):Gv (.tup [.str "ring",.lst (rO S)]):=by
 have:(rO S).all (aH 18)=true:=by
  rw[all_eq_true];intro d hd;obtain⟨z,_,rfl⟩:=vO hd;rfl
 show(true && (aH 19 _ && true))=true;simp_all
section
variable {aa:LD}(hq:∀r∈aa,Rq r) (g:∀r∈aa,b7 r) {k1 k2:Int}(hk:∀(n:Nat)(r:D),aa[n]? = some r->decide (a5 r<=k2)=decide (a5 r<=k1))
include hq g hk
theorem Ka (a:Nat):(∃v,Gv v/\∀ae n0 M,ae=k1\/ae=k2->dJ (wE aa ae n0 M a)=some (.rt v false))\/(a<aa.length/\((∃h ag,∃ps:LS,aa[a]? = some (row h "paper" ag)/\ag[5]? = some (.tup (ps.map .str))/\ps.length<=3/\∀ae n0 M v,ae=k1\/ae=k2->M.length<=100->gd [.tup aa,.lst ((M++[a]).map λ(i:Nat)=>.int (i:Int))]=some (v,false)->dJ (wE aa ae n0 M a)=some (.rt v false))\/∃k,∀ae n0 M,ae=k1\/ae=k2->M.length<=100->dJ (wE aa ae n0 M a)=some (.nx (wE aa ae n0 (M++[a]) k)))):=by
 cases hr:aa[a]? with
 |none=>
  have hn:aa.length<=a:=List.getElem?_eq_none_iff.mp hr;refine .inl ⟨_,Ba "lacks" a,λae n0 M _=>aU (be (p:=false) (bZ (a0 [.tup aa,.int ae,.int a] rr (ah rr (ak (bS (p:=false) (q:=false) (a0 [.tup aa,.int ae,.int a] rr (ur hn ae)) λz=>by cases z)))))) (ak (a0 [.str "lacks",.int (a:Int)] rr (aW _ V9)))⟩
 |some r=>
  have m:=g r (vL hr);have ha:=(vV hr).1;have ei:∀ {ρ:DL.Env},ρ[0]? = some (sT aa)->ρ[4]? = some (sI a)->f2 eG (am 0) (am 4) ρ=some (r,false):=λ{ρ} h0 h3=>aP (.tup aa) (.int a) (by simp[h0]) (by simp[h3]) (by simp[aY hr]);have j:∀ae n0 M,ae=k1\/ae=k2->jm (bD (fA cy (fV 0 (fV 1 (fV 4 av))))) (wE aa ae n0 M a)=some (!(decide (a5 r<=k1) && decide (kindOf r∈ci))):=λae n0 M O=>by
   have:jm (bD (fA cy (fV 0 (fV 1 (fV 4 av))))) (wE aa ae n0 M a)=some (!(decide (a5 r<=ae) && decide (kindOf r∈ci))):=be (bZ (a0 [.tup aa,.int ae,.int a] rr (m6 hr m ae)));rcases O with rfl|rfl
   .exact this
   .rw[hk a r hr]at this;exact this
  cases hv:(decide (a5 r<=k1) && decide (kindOf r∈ci)) with
  |false=>exact .inl ⟨_,Ba "lacks" a,λae n0 M O=>aU ((j ae n0 M O).trans (by rw[hv];rfl)) (ak (a0 [.str "lacks",.int (a:Int)] rr (aW _ V9)))⟩
  |true=>
   have hk:=ET (vB _ _ ▸ hv).2;have s1:∀ae n0 M,ae=k1\/ae=k2->jm (bD (fA cy (fV 0 (fV 1 (fV 4 av))))) (wE aa ae n0 M a)=some false:=λae n0 M O=>(j ae n0 M O).trans (by rw[hv];rfl);have U:∀ae n0 M,M.length<=100->∀ {T:FS}{res:Option Res},T (wE aa ae n0 (M++[a]) a)=res->bd (vh 3 (am 4)) T (wE aa ae n0 M a)=res:=λae n0 M hl {T res} hT=>Oo (ds:=M.map λ(i:Nat)=>.int (i:Int)) (d:=.int (a:Int)) (b:=false) rr rr rr (bA (by rw[vH];lia)) (by
    grind)
   refine .inr ⟨ha,?_⟩;have hR:=hq r (vL hr);cases hR with
   |non r h=>exact absurd hk h
   |paper h ag ps e l=>exact .inl ⟨h,ag,ps,rr,e,l,λae n0 M v O hl o=>aw (s1 ae n0 M O) (U ae n0 M hl (aU (bB (a:="paper") (bb:=false) (a0 [row h "paper" ag] (aV (ei rr rr) rr) (bG _ _ _)) (xw rr)) (ak (a0 _ rr o))))⟩
   |like h ag f c z e e2=>exact .inr ⟨f,λae n0 M O hl=>aw (s1 ae n0 M O) (U ae n0 M hl (aw (bB (a:="like") (bb:=false) (a0 [row h "like" ag] (aV (ei rr rr) rr) (bG _ _ _)) (ES H9)) (jy (a0 [row h "like" ag,.str "of"] (aV (ei rr rr) rr) (bf (i:=5) bX e)) rr)))⟩
   |copy h ag f e=>exact .inr ⟨f,λae n0 M O hl=>aw (s1 ae n0 M O) (U ae n0 M hl (aw (bB (a:="copy") (bb:=false) (a0 [row h "copy" ag] (aV (ei rr rr) rr) (bG _ _ _)) (ES H9)) (jy (a0 [row h "copy" ag,.str "of"] (aV (ei rr rr) rr) (bf (i:=2) bX e)) rr)))⟩
theorem R6 (t:aa.length<=30):∀(k:Nat)(p:LN)(n0 a f:Nat),left aa p<=k->p.length+left aa p<=aa.length->(∀i∈p,i<aa.length)->k+3<=f->∃v b,Gv v/\∀ae,ae=k1\/ae=k2->WF f (wE aa ae n0 p a)=some (.rt v b):=by
 intro k;induction k with
 |zero=>
  intro p n0 a f c hp hi hf;obtain⟨f,rfl⟩:∃j,f=j+1:=⟨f - 1,N9⟩;by_cases M:a∈p
  .exact⟨_,true,Dj _,λae _=>JZ M N9 rr⟩
  .rcases Ka hq g hk a with⟨v,U,hv⟩|⟨ha,_⟩
   .exact⟨v,false,U,λae O=>R5 M (hv ae _ _ O)⟩
   .have:=Di ha M;lia
 |succ k m=>
  intro p n0 a f c hp hi hf;obtain⟨f,rfl⟩:∃j,f=j+1:=⟨f - 1,N9⟩;by_cases M:a∈p
  .exact⟨_,true,Dj _,λae _=>JZ M N9 rr⟩
  .have d:a<aa.length->∀i∈p++[a],i<aa.length:=λha i o=>by
    rcases mem_append.mp o with z|z
    .exact hi i z
    .cases uS z;exact ha
   rcases Ka hq g hk a with⟨v,U,hv⟩|⟨ha,⟨h,ag,ps,hr,e,l,hv⟩|⟨q,hv⟩⟩
   .exact⟨v,false,U,λae O=>R5 M (hv ae _ _ O)⟩
   .obtain⟨v,U,s⟩:=Nd hq g p a (d ha) N9 hr e l;exact⟨v,false,U,λae O=>R5 M (hv ae _ _ _ O N9 s)⟩
   .have u:=Di ha M;obtain⟨v,b,U,h⟩:=m _ n0 q f N9 (by grind) (d ha) N9;exact⟨v,b,U,λae O=>by rw[XG M (hv ae _ _ O N9)];exact h ae O⟩
theorem Kb (O:aa.length<=30)(n:Nat):∃v b,Gv v/\jZ [.tup aa,.int k1,.int n]=some (v,b)/\jZ [.tup aa,.int k2,.int n]=some (v,b):=by
 have h0:left aa []<=aa.length:=by exact vR (vM _ _) V9
 obtain⟨v,b,U,e⟩:=R6 hq g hk O _ [] n n 1000 h0 (by rw[length_nil];lia) V9 N9;have h:∀ae,ae=k1\/ae=k2->jZ [.tup _,.int _,.int n]=some _:=λae M=>ah rr (b9 (a0 [] rr (cz _ V9)) rr (gA _ rr rr (e _ M)));exact⟨v,b,U,h k1 (.inl rr),h k2 (.inr rr)⟩
end
end Lw
namespace Lw
open PySem DL L2
theorem Vj (d:D)(r:LD):jf (d::r) (some 1) none=r:=by
 simp_all[jf,HT.cQ]
theorem zk (aa:LD)(n:Nat):jf aa none (some (n:Int))=aa.take n:=by
 simp_all[jf,HT.Fw,HT.Le]
theorem zm {op:D->OB}{fa:FE}{ρ:DL.Env}{x:D}{b:Bool}{z:OB}(M:fa ρ=some (x,b))(e2:op x=z):f1 op fa ρ=z:=by unfold f1;rw[M];exact e2
theorem zn (parts:LS)(ag:LD):gW (parts.map .str) ag=(parts.zip ag).map λx=>.tup [.str x.1,x.2]:=by
 induction parts generalizing ag with
 |nil=>rfl
 |cons a l M=>
  cases ag with
  |nil=>rfl
  |cons d r=>simp_all[gW]
theorem mE {α:Type}(l:List α):U0 [.lst (l.map λ_=>.bl true)]=some (.bl true,false):=by
 simp
noncomputable def rQ (c:Nat):Bool:=decide (97<=c) && decide (c<=122)
theorem zo (c:Nat)(ρ:DL.Env)(h:ρ[0]? = some (some (.str ⟨#[c]⟩,false))):jp NS NS (fC (.str "a")) (am 0) (fC (.str "z")) ρ=some (.bl (rQ c),false):=by
 refine io (b1:=false) (b2:=false) (b3:=false) ?_ ?_ ?_ (Cn _ _) λ_=>Cn _ _
 .rfl
 .simp[h]
 rfl
noncomputable def nX (z:Str):Bool:=(decide (1<=z.length) && decide (z.length<=8)) && z.cps.toList.all rQ
theorem zp (z:Str):z.cps.toList.length=z.length:=by simp[Str.length]
theorem jJ {z:Str}(h:nX z=true):nB [.str z]=some (.bl true,false):=by
 unfold nX at h;rw[vB,vB]at h;obtain⟨⟨h1,M⟩,ha⟩:=h;have hl:z.length<=sizeLine:=bg N9;refine ah rr (aw (bx (p:=false) V9 λ_=>be (p:=true) (bW ((io (y:=.int z.length) (z:=.int 8) (b2:=false) (b4:=false) (p:=true) rr (by simp[hl]) rr Y9 λ_=>by simp;lia).trans rr))) (ak (aE (ds:=[.lst (z.cps.toList.map λc=>.bl (rQ c))]) ?_ ?_)))
 .have:=f8 (fi:=cb (am 0)) (nT:=1) (cap:=[]) (tg:=dS 0) (ρ:=[some (.str z,false)]) z.cps.toList (λc=>.str ⟨#[c]⟩) _ (by simp[Ev]) (by rw[zp];lia) λc _=>
   ⟨_,rr,false,zo c _ (by simp[cm])⟩
  exact a9 this rr
 simp_all
theorem uy {d lo hi:Int}(h1:lo<=d)(h2:d<=hi):qP [.int d,.int lo,.int hi]=some (.bl true,false):=by
 refine ah rr (ak ((bS (p:=true) (b1:=false) V9 λ_=>(bS (M8 (p:=false) (b1:=false) V9) λ_=>(io (b4:=false) (p:=true) rr rr rr Y9 λ_=>by simp;lia).trans rr).trans rr).trans rr))
theorem Nf {d:Int}(h1:0<=d)(h2:d<=9999):yJ [.int d]=some (.bl true,false):=ah rr (ak (aE rr (uy h1 h2)))
theorem uz {z:Str}(h:nX z=true):qQ [.str z]=some (.bl true,false):=ah rr (ak (aE rr (jJ h)))
theorem Bb {ps:LS}(h1:1<=ps.length)(M:ps.length<=8)(h:∀p∈ps,nX p=true):j5 [.tup (ps.map .str)]=some (.bl true,false):=by
 refine ah rr (aw (bx (p:=false) V9 λ_=>be (bW ((io (y:=.int ps.length) (z:=.int 8) (b2:=false) (b4:=false) (p:=true) (q:=true) rr V9 rr Y9 λ_=>by simp;lia).trans rr))) (ak (aE ?_ (mE ps))));have:=f8 (fi:=cb (am 0)) (nT:=1) (cap:=[]) (tg:=dS 0) (fe:=fA _ (ao (am 0) av)) (ρ:=[some (.tup (ps.map .str),false)]) ps (λp=>.str p) _ V9 N9 λp hp=>
  ⟨_,rr,false,aE (by simp[cm]) (uz (h p hp))⟩
 exact a9 this rr
theorem cq {p q:Str}{v:D}{b:Bool}(h:decide (p=q)=b):bD (f2 je (am 0) (fC (.str q))) [some (.str p,false),some (v,false)]=some b:=by simp_all
theorem c2 {p q r:Str}{v:D}(h:(decide (p=q) || decide (p=r))=false):iD (bD (f2 je (am 0) (fC (.str q)))) (bD (f2 je (am 0) (fC (.str r)))) [some (.str p,false),some (v,false)]=some false:=(bx (cq rr) λ_=>cq rr).trans (by rw[h])
theorem c3 {p q r t:Str}{v:D}(h:(decide (p=q) || (decide (p=r) || decide (p=t)))=false):iD (bD (f2 je (am 0) (fC (.str q)))) (iD (bD (f2 je (am 0) (fC (.str r)))) (bD (f2 je (am 0) (fC (.str t))))) [some (.str p,false),some (v,false)]=some false:=(bx (cq rr) λ_=>bx (cq rr) λ_=>cq rr).trans (by rw[h])
theorem c3t {p q r t:Str}{v:D}(h:(decide (p=q) || (decide (p=r) || decide (p=t)))=true):iD (bD (f2 je (am 0) (fC (.str q)))) (iD (bD (f2 je (am 0) (fC (.str r)))) (bD (f2 je (am 0) (fC (.str t))))) [some (.str p,false),some (v,false)]=some true:=(bx (cq rr) λ_=>bx (cq rr) λ_=>cq rr).trans (by rw[h])
theorem xf {p:Str}{v:D}(h0:(decide (p=("day" : Str)) || decide (p=("since" : Str)))=false)(hp:(decide (p=("office" : Str)) || (decide (p=("by" : Str)) || decide (p=("person" : Str))))=true)(h:nB [v]=some (.bl true,false)):dz [.str p,v]=some (.bl true,false):=ah rr (aw (c2 h0) (aU (c3t hp) (ak (aE rr h))))
theorem EI {v:D}(h:j5 [v]=some (.bl true,false)):dz [.str "pieces",v]=some (.bl true,false):=ah rr (aw (c2 H9) (aw (c3 H9) (aw (cq H9) (aw (cq H9) (aw (cq H9) (aw (cq H9) (aw (cq H9) (aw (cq H9) (aU (cq H9) (ak (aE rr h)))))))))))
noncomputable def gO (z:Str):Bool:=KE (.str z) [.str "by",.str "person",.str "whom"]
noncomputable def there:D->Bool
 |.non=>false
 |_=>true
@[simp] theorem XH:there .non=false:=rfl
@[simp] theorem XI (z:Str):there (.str z)=true:=rfl
@[simp] theorem XJ (z:Int):there (.int z)=true:=rfl
@[simp] theorem XM (z:LD):there (.tup z)=true:=rfl
theorem oS (d:D)(h:Aj d=false):gI d .non=some (.bl (there d),false):=by
 cases d<;>simp[there]at h |-
noncomputable def EJ (l:List (Str×D)):LD:=(l.filter λx=>gO x.1 && there x.2).map (·.2)
structure Nm7 (zs:List Str):Prop where
 len:zs.length=5
 nd:zs.Nodup
 nm:∀z∈zs,nX z=true
noncomputable def off (zs:LS)(k:Nat):Str:=zs.getD (if k=0 then 4 else 3) ""
theorem R7 {zs:LS}(g:Nm7 zs):¬off zs 0=off zs 2:=by
 obtain⟨l,nd,_⟩:=g;match zs,l with
 |[a,b,c,d,e],_=>
  intro h;have h:e=d:=h;grind
structure DeedG (zs:List Str)(k:Nat)(h:Int)(kind:Str)(ag:List D):Prop where
 parts:∃(parts:List Str)(ss:List Str),sA bI (.str kind)=some (.tup (parts.map .str),false)/\parts.length=ag.length/\(∀x∈parts.zip ag,dz [.str x.1,x.2]=some (.bl true,false))/\EJ (parts.zip ag)=ss.map .str/\ss.length<=2/\∀s∈ss,s∈zs
 len:ag.length<=10
 flat:∀d∈ag,aI d=true/\Aj d=false
 day:(kind=("root" : Str)/\(k=0\/k=2)/\∃r,ag=.str (off zs k)::r)\/(kind≠("root" : Str)/\(∃(day:Int)(r:List D),ag=.int day::r/\day<=h/\0<=day/\(kind=("chosen" : Str)->∃a b c s,r=[a,b,c,.int s]/\day<=s))/\lh bI (.str kind) (.str "day")=some (.int 0,false))
def zq (zs:LS)(k:Nat)(r:D):Prop:=∃h kind ag,r=row h kind ag/\0<=h/\h<=9999/\DeedG zs k h kind ag
theorem Bc (k q:Str):je (.str k) (.str q)=some (.bl (decide (k=q)),false):=V9
noncomputable def hasDay:D->Bool
 |.tup [_,.tup (.str _::.int _::_)]=>true
 |_=>false
noncomputable def R8 (r:D):D:=bif hasDay r then .int (aO r)else .non
theorem Ng {k:Nat}{h:Int}{kind:Str}{ag:LD}(g:DeedG zs k h kind ag):bj [row h kind ag]=some (R8 (row h kind ag),false):=by
 rcases g.day with⟨e,_,r,rfl⟩|⟨e,⟨day,r,rfl,_⟩,hi⟩
 .exact ah rr (aU (bW (eW (aE rr (bG _ _ _)) rr (by rw[Bc,xw e]))) (ak rr))
 .exact ah rr (aw (bW (eW (aE rr (bG _ _ _)) rr (by rw[Bc,ES e]))) (ak (aE rr (bf hi rr))))
theorem Kc {k:Nat}{h:Int}{kind:Str}{ag:LD}(g:DeedG zs k h kind ag):tZ [.tup (.str kind::ag)]=some (.bl true,false):=by
 obtain⟨parts,ss,hp,hl,ha,_⟩:=g.parts;have M:(bI.lookup kind).isSome=true:=by
  simp_all
 have hsz:=g.len;have O:f2 eG (am 0) (fC (.int 0)) [some (.tup (.str kind::ag),false)]=some (.str kind,false):=by simp[ra]
 have U:=zm (b:=false) O hp;refine ah rr (aw (bx (p:=false) (q:=false) V9 λ_=>bx (p:=false) (q:=false) (bW (b:=false) Y9) λ_=>be (p:=true) (bW (b:=false) (aE (a9 O rr) V9))) (aw (bx (p:=false) (q:=false) (bW (b:=false) (zm (b:=false) O ?_)) λ_=>bW (b:=false) (eW (x:=.int ((ag.length+1:Nat):Int)) (y:=.int (1+(parts.length:Int))) (b1:=false) (b2:=false) V9 (eW (x:=.int 1) (y:=.int parts.length) (b1:=false) (b2:=false) rr (aE (a9 U rr) V9) V9) ?_)) (ak (aE (ds:=[.lst ((parts.zip ag).map _)]) ?_ (mE _)))))
 .simp only[Ap,M];rfl
 .simp;lia
 .have:=f8 (fi:=Gs (f1 (sA bI) _) (sr (am 0) (dE (fC (.int 1))) eO)) (nT:=2) (cap:=[]) (tg:=DM [0,1]) (fe:=fA dz (ao (am 0) (ao (am 1) av))) (parts.zip ag) (λx=>.tup [.str x.1,x.2]) _
   (by
    show(f1 (sA bI) _ _).bind _=_;rw[U];simp[Vj,zn]) (by rw[length_zip];lia) λx hx=>by
    exact⟨_,rr,false,aE (by simp[cm]) (ha x hx)⟩
  exact a9 (b:=true) this rr
theorem EK (r:D):aI (R8 r)=true:=by
 unfold R8;cases hasDay r<;>rfl
theorem Bd {k:Nat}{h:Int}{kind:Str}{ag:LD}(g:DeedG zs k h kind ag):o6 [row h kind ag]=some (.bl true,false):=by
 have hd:=Ng g;have M:∀ {hh:FS}{r:Option Res},hh _=r->bd (cP 1 (fA bj (ao (am 0) av))) hh [some (row h kind ag,false),none]=r:=λe=>AJ (aE rr hd) (EK _) e;rcases g.day with⟨e,_,r,rfl⟩|⟨e,⟨day,r,rfl,U,d,O⟩,hi⟩
 .exact ah rr (M (aU (bW (b:=false) (eW (x:=.non) rr rr (by simp[DI]))) (ak rr)))
 .refine ah rr (M (aw (bW (b:=false) (eW (x:=.int day) rr rr (by simp[DI]))) (aw ((ce (bW (eW (aE rr (bG _ _ _)) rr (Bc _ _))) λhc=>?_).trans (by rw[Bool.and_false])) (ak ?_))))
  .have hc:=ET hc;subst hc;obtain⟨a,b,c,s,rfl,hs⟩:=O rr;refine bW (b:=false) (eW (y:=.int day) (aE rr (bf (i:=4) (w9 H9) rr)) rr ?_);simp;lia
  .refine eW (x:=.int day) (y:=.int h) (b2:=false) rr (by simp[row,ra]) ?_;simp;lia
theorem Nh {k:Nat}{r:D}(g:zq zs k r):yK [r]=some (.bl true,false):=by
 obtain⟨h,kind,ag,rfl,h0,h1,g⟩:=g;refine ah rr (aw (bx (p:=false) (by simp[row]) λ_=>by simp[row]) (ak ((bS (aE (by simp[row,ra]) (Nf h0 h1)) λ_=>(bS (aE (by simp[row,at1]) (Kc g)) λ_=>aE rr (Bd g)).trans rr).trans rr)))
noncomputable def Kd:D->Str
 |.tup [_,.tup (_::.str o::_)]=>o
 |_=>("" : Str)
theorem Ni:lh bI (.str "root") (.str "office")=some (.int 0,false):=w9 H9
theorem rR {k:Nat}{r:D}(g:zq zs k r)(h:aJ r=true):ay [r,.str "office"]=some (.str (Kd r),false)/\Kd r=off zs k/\(k=0\/k=2):=by
 obtain⟨a,kind,ag,rfl,_,_,g⟩:=g;have h:=ET h;subst h;rcases g.day with⟨_,hk,r,rfl⟩|⟨e,_⟩
 .exact⟨bf Ni rr,rr,hk⟩
 simp_all
theorem rS {k:Nat}{r:D}(g:zq zs k r):aS [r]=some (.str (kindOf r),false):=by
 obtain⟨a,kind,ag,rfl,_⟩:=g;exact bG _ _ _
theorem Nj (k:Str)(M:LS):LJ (.str k) (.lst (M.map .str))=some (.bl (decide (k∈M)),false):=by
 simp only[LJ,fz,vJ,mq];rw[if_pos ⟨rr,kh M⟩]
def zr (zs:LS)(aa:LD):Prop:=(aa.length<=24/\Nm7 zs)/\∀(j:Nat) r,aa[j]? = some r->zq zs j r
theorem zr.mem {aa:LD}(g:zr zs aa){r:D}(h:r∈aa):∃k,zq zs k r:=by
 obtain⟨j,hj⟩:=mem_iff_getElem?.mp h;exact⟨j,g.2 j r hj⟩
theorem EL {aa:LD}(g:zr zs aa){i:Nat}{r:D}(hr:aa[i]? = some r):iq [.tup (aa.take i),r]=some (.bl false,false):=by
 have d:=g.2 i r hr;refine ah rr (ak ((bS (p:=aJ r) (q:=false) (b1:=false) (eW (b1:=false) (b2:=false) (aE (ds:=[r]) rr (rS d)) rr (Bc _ _)) λO=>?_).trans (by rw[Bool.and_false])));obtain⟨ho,f,hk⟩:=rR d O;have M:∀x∈aa.take i,∃j,j<i/\zq zs j x:=λx hx=>by
  obtain⟨j,hj⟩:=mem_iff_getElem?.mp hx;rw[List.getElem?_take]at hj;split at hj
  .rename_i h;exact⟨j,h,g.2 j x hj⟩
  simp_all
 have hc:=dH (fi:=cb (am 0)) (nT:=1) (cap:=[]) (tg:=dS 0) (c:=bD (f2 je (fA aS (ao (am 0) av)) (fC _))) (fe:=fA ay (ao (am 0) (ao (fC (.str "office")) av))) (ρ:=[some (.tup (aa.take i),false)]) (aa.take i) (λx=>x) aJ _ V9 Y9 λx hx=>by
  obtain⟨j,hj,U⟩:=M x hx;exact⟨_,rr,bW (b:=false) (eW (b1:=false) (b2:=false) (aE (ds:=[x]) (by simp[cm]) (rS U)) rr (Bc _ _)),λhx=>⟨false,aE (by simp[cm]) (rR U hx).1⟩⟩
 have a:j7 [.tup (aa.take i)]=some (.lst ((((aa.take i).filter aJ).map Kd).map .str),true):=by
  rw[uO];exact ah rr (ak hc)
 refine eW (b1:=false) (b2:=true) (aE rr ho) (aE rr a) ?_;rw[Nj];congr 3;refine ES λk=>?_;obtain⟨x,hx,e⟩:=vO k;obtain⟨hx,l⟩:=vN hx;obtain⟨j,hj,U⟩:=M x hx;obtain⟨_,m,n⟩:=rR U l;have:=R7 g.1.2;lia
theorem zt:∀(ss M:LS){x:Str},x∈ss.foldl iJ M->x∈M\/x∈ss
 |[],M,x,h=>.inl h
 |y::ss,M,x,h=>by
  rcases zt ss _ h with h|h
  .rcases qc.mp h with h|h
   .exact .inl h
   simp_all
  simp_all
theorem rT:∀(ss M:LS),M.Nodup->(ss.foldl iJ M).Nodup
 |[],M,h=>h
 |y::ss,M,h=>rT ss _ (pZ h y)
theorem zu {ss:LS}{x:Str}(h:x∈dU ss):x∈ss:=by
 rcases zt ss [] h with h|h
 .cases h
 .exact h
theorem zv:∀(l m:LS),l.Nodup->(∀x∈l,x∈m)->l.length<=m.length
 |[],m,_,_=>uM _
 |x::l,m,h,s=>by
  rw[nodup_cons]at h;have:=zv l _ h.2 λy hy=>(List.mem_erase_of_ne (b:=x) (λe=>h.1 (by rw[<-e];exact hy))).mpr (s y (mZ _ hy));grind
theorem zw {h:Int}{kind:Str}{ag:LD}{parts:LS}(hp:sA bI (.str kind)=some (.tup (parts.map .str),false)):ln [row h kind ag]=some (.lst ((parts.zip ag).map λx=>.tup [.str x.1,x.2]),true):=by
 refine ah rr (ak ?_);have M:f1 _ (fA _ (ao (am 0) av)) [some (row h _ ag,false)]=some _:=zm (aE rr (bG h _ _)) hp;have e2:sr (f2 eG (am 0) (fC (.int 1))) (dE (fC (.int 1))) eO [some (row h kind ag,false)]=some (.tup ag,false):=by simp[row,at1,Vj]
 show(((f1 _ _ [some _]).bind λx=>(sr _ _ _ [some _]).bind _).map _)=_;rw[M,e2];simp[zn]
theorem EM {k:Nat}{r:D}(g:zq zs k r):∃ss:LS,j8 [r]=some (.lst (ss.map .str),true)/\ss.length<=2/\∀s∈ss,s∈zs:=by
 obtain⟨h,kind,ag,rfl,_,_,g⟩:=g;obtain⟨parts,ss,hp,hl,_,hk,O,a⟩:=g.parts;have M:=dH (fi:=cb (fA ln (ao (am 0) av))) (nT:=2) (cap:=[]) (tg:=DM [0,1]) (c:=ft (bD (f2 LJ (am 0) (fC ga))) (bD (f2 _ (am 1) (fC .non)))) (fe:=am 1)
  (ρ:=[some (row h kind ag,false),none]) (parts.zip ag) (λx=>.tup [.str x.1,x.2]) (λx=>gO x.1 && there x.2) _ (by
   have d:fA _ (ao (am 0) av) [some (row h kind ag,false),none]=_:=aE rr (zw hp);simp_all) (by
   have:=g.len;simp<;>lia) λx hx=>by
   have U:=(g.flat x.2 (of_mem_zip hx).2);refine⟨_,rr,ce (bW (b:=false) ?_) λ_=>bW (b:=false) ?_,λ_=>⟨false,?_⟩⟩
   .rfl
   .exact eW (b1:=false) (by simp[cm]) rr (oS _ U.2)
   rfl
 refine⟨kI (dU ss),ah rr (b9 ?_ (bo ss) (ak ?_)),?_,?_⟩
 .exact hk ▸ M
 .simp<;>lia
 .rw[(dm _).length_eq];exact vR (lN ss) O
 .grind[zu,dm]
theorem EN {aa:LD}(g:∀r∈aa,∃k,zq zs k r)(hl:aa.length<=60)(O:zs.length=5):∃n:Nat,j9 [.tup aa]=some (.int n,false)/\n<=5:=by
 obtain⟨ρ',e,ys,v,rfl,hz,M⟩:=fZ (tg:=dS 2) (g:=pj) (λi ρ=>∃(ys:LS)(v:OB),ρ=[some (.tup aa,false),some (.lst (ys.map .str),true),v]/\ys.length<=2*i/\∀z∈ys,z∈zs) aa
  _ ⟨[],none,rr,V9,V9⟩ (by
   rintro i d ρ hd ⟨ys,v,rfl,hz,M⟩;have hi:=(vV hd).1;obtain⟨k,U⟩:=g d (vL hd);obtain⟨ss,hp,c,a⟩:=EM U;have hsz:(ys.map D.str).length+(ss.map D.str).length<=sizeLine:=bg Y9;refine⟨_,[some _,some _,some (d,false)],rr,.inl ?_,ys++ss,some (d,false),rr,Y9,?_⟩
   .have hv:fA j8 (ao (am 2) av) [some (.tup aa,false),some (.lst (ys.map .str),true),some (d,false)]=some _:=aE (ds:=[d]) rr hp;show Aq 1 _ [some _,some _,some (d,false)]=_;simp only[Aq,List.getElem?_cons_succ,List.getElem?_cons_zero,hv,vJ];rw[if_pos ⟨trivial,bo ss,hsz⟩];simp
   grind)
 refine⟨(dU ys).length,ah rr (b9 (ds:=[]) T9 rr (bv (cG (ds:=aa) (by simp[fN]) e) (ak (zm (b:=false) rr ?_)))),?_⟩
 .simp<;>lia
 .exact vR (zv (dU ys) zs (rT ys [] nodup_nil) λz hz=>M z (zu hz)) (le_of_eq O)
theorem Be {aa:LD}(g:zr zs aa){i:Nat}(hi:i<aa.length):mm [.tup aa,.int i]=some (.bl false,false):=by
 obtain⟨r,hr⟩:∃r,aa[i]? = some r:=⟨_,vU hi⟩;have ha:=aY hr;have U:=g.1.1;have M:∀ρ:DL.Env,ρ[0]? = some (some (.tup aa,false))->ρ[1]? = some (some (.int i,false))->f2 eG (am 0) (am 1) ρ=some (r,false):=λρ h0 h1=>by simp[h0,h1,ha]
 obtain⟨n,hn,a⟩:=EN (λx hx=>g.mem (mem_of_mem_take hx)) Y9 g.1.2.len;have O:=zk aa (i+1);refine ah rr (aw (bx (p:=false) (q:=false) (bW (b:=false) (by simp[j4];lia)) λ_=>be (p:=true) (bW (aE (ds:=[r]) (a9 (M _ rr rr) rr) (Nh (g.2 i r hr))))) (ak ((tY (p:=false) (aE (a9 (b:=false) (by simp[zk]) (a9 (M _ rr rr) rr)) (EL g hr)) λ_=>eW (y:=.int 20) (aE (a9 (b:=false) (by simp;exact O) rr) hn) rr Y9).trans rr)))
theorem oV {aa:LD}(g:zr zs aa)(hf:aQ aa=true)(d:D)(hd:d=.lst aa\/d=.tup aa):ca [d]=some (.tup aa,false):=by
 have hl:=g.1.1;obtain⟨ρ',e,v,rfl⟩:=me (tg:=dS 2) (g:=qR) _ (λi ρ=>∃v:Option _,ρ=[some (d,false),some (.tup aa,false),v])
  _ ⟨none,rr⟩ (by
   rintro i ρ hi ⟨v,rfl⟩;exact⟨_,_,rr,.inl (gL (bW (aE rr (Be g hi))) rr),some _,rr⟩)
 refine ah rr (aw (be (p:=true) (bW (b:=false) (aE (a9 rr (a9 (d:=.tup [.ty "list",.ty "tuple"]) (b:=false) T9 rr)) ?_))) (AJ (b:=false) (aE rr ?_) (by simp[hf]) (bv (mi (ij (b:=false) V9 N9) e) (gD rr))))
 .rcases hd with rfl|rfl<;>simp
 .rcases hd with rfl|rfl<;>simp
end Lw
namespace Lw
open PySem PySem.Spec DL L2
theorem Ke (a:Int){m:Int}(h:0<m):dD (.int a) (.int m)=some (.int (a % m),false):=by simp[h]
theorem R9 (a:Int){m:Int}(h:0<m)(h2:m<1073741824):fg (.int a) (.int m)=some (.int (a / m),false):=by simp[h,h2]
theorem im {f:FE}{ρ:DL.Env}{a m:Int}(e:f ρ=sI a)(h:0<m):f2 dD f (fI m) ρ=sI (a % m):=aP _ _ e rr (Ke a h)
theorem u0 {f:FE}{ρ:DL.Env}{a m:Int}(e:f ρ=sI a)(h:0<m)(h2:m<1073741824):f2 fg f (fI m) ρ=sI (a / m):=aP _ _ e rr (R9 a h h2)
theorem Bf (a:Int){b:Int}(h : -1000000<=b/\b<=1000000):xU (.int a) (.int b)=some (.int (a*b),false):=by
 have : -18446744073709551616<b/\b<18446744073709551616:=N9
 simp[this]
theorem xg {k:Int}(h : -1000000000000<=k/\k<=1000000000000):Builtin.Int.intBits k<=64:=intBits_le_64 N9 N9
theorem km {ns:LI}(hf:S9 ns)(k:Nat)(hk:k<=100):∃c:Int,eY [.lst (ns.map .int),.int k]=sI c:=by
 have M:∀ρ:DL.Env,ρ[0]? = some (sL (ns.map .int))->fA pR (fV 0 av) ρ=sI ns.length:=λρ h=>by
  simp_all
 have dv:∀v:Int,Builtin.Int.intBits v<=2097152->pf (f2 dD (f2 UR (am 2) (am 2)) (fI 2147483563)) [sL (ns.map .int),sI k,sI v]=some (.rt (.int (v*v % 2147483563)) false):=λv hv=>
  ak (im (aP (.int v) (.int v) rr rr (by simp[hv])) Z9)
 by_cases h:k<ns.length
 .refine⟨ns.getD k 0,ah rr (aU (bZ (aP (.int k) (.int ns.length) rr (M _ rr) Y9)) (ak (aP (.lst (ns.map .int)) (.int k) rr rr ?_)))⟩;have:=Co (xs:=ns) (i:=k) N9 (by simpa using h);rw[Int.toNat_natCast]at this;exact this
 .have U:Builtin.Int.intBits (30011*(k:Int)+19)<=64:=xg N9;have d:f2 dZ (f2 xU (fI 30011) (am 1)) (fI 19) [sL (ns.map .int),sI k,none]=sI (30011*k+19):=aP (.int (30011*k)) (.int 19) (aP (.int 30011) (.int k) rr rr (Bf _ N9)) rr rr;have e:bD (f2 Wm (am 1) (fA pR (fV 0 av))) [sL (ns.map .int),sI k,none]=some false:=bZ (aP (.int k) (.int ns.length) rr (M _ rr) Y9);by_cases hz:0<ns.length
  .have O:(0:Int)<ns.length:=N9
   have h5:=mod_lt (x:=(k:Int)*13) O;obtain⟨j,hj⟩:∃j:Nat,(k:Int)*13 % ns.length=j:=⟨((k:Int)*13 % ns.length).toNat,N9⟩;have a:j<ns.length:=N9
   have hb:Builtin.Int.intBits (ns.getD j 0)<=1048576:=hf _ (by grind);have ei:f2 eG (am 0) (f2 dD (f2 xU (am 1) (fI 13)) (fA pR (fV 0 av))) [sL (ns.map .int),sI k,sI (30011*k+19)]=sI (ns.getD j 0):=by
    refine aP (.lst (ns.map .int)) (.int j) rr (hj ▸ aP (.int (k*13)) (.int ns.length) (aP (.int k) (.int 13) rr rr (Bf _ Z9)) (M _ rr) (Ke _ O)) ?_;have:=Co (xs:=ns) (i:=j) N9 (by simpa using a);rw[Int.toNat_natCast]at this;exact this
   generalize ns.getD j 0=x at hb ei;have g:(k:Int)*k<=10000/\0<=(k:Int)*k:=by
    have h1:k*k<=100*100:=Nat.mul_le_mul hk hk;grind
   have f:f2 dZ (f2 dZ (f2 xU _ (fI 39373)) (f2 xU (f2 xU (am 1) (am 1)) (fI 3001))) (fI 5) _=sI (x*39373+k*k*3001+5):=
    aP (.int (x*39373+k*k*3001)) (.int 5) (aP (.int (x*39373)) (.int (k*k*3001)) (aP (.int x) (.int 39373) ei rr (Bf _ Z9)) (aP (.int (k*k)) (.int 3001) (aP (.int k) (.int k) rr rr (Bf _ N9)) rr (Bf _ Z9)) rr) rr rr
   generalize (k:Int)*k=y at g f;have b:Builtin.Int.intBits (x*39373+y*3001+5)<=2097152:=by
    have h1:=intBits_mul_le hb (xg (k:=39373) Z9);have h2:=intBits_add_le h1 (xg (k:=y*3001) N9);have h3:=intBits_add_le h2 (xg (k:=5) Z9);exact vR h3 Z9
   exact⟨_,ah rr (aw e (gA (.int (30011*k+19)) d rr (bv (kx (bZ (aP (.int ns.length) (.int 0) (M _ rr) rr Y9)) (jy f rr)) (dv _ b))))⟩
  .refine⟨_,ah rr (aw e (gA (.int (30011*k+19)) d rr (bv (gL (bZ (aP (.int ns.length) (.int 0) (M _ rr) rr (by rw[show(ns.length:Int)=0 by lia];rfl))) rr) (dv (30011*k+19) (vR U Z9)))))⟩
theorem xh {ρ:DL.Env}{i n:Nat}{ds:LD}{M O:FE}{d:D}{b b':Bool}(e:ρ[i]? = some (some (.lst ds,true)))(U:O ρ=some (d,b))(ek:M ρ=some (.int n,b'))(hn:n<ds.length)(hf:aI d=true):G0 i M O ρ=some (.nx (ρ.set i (some (.lst (ds.set n d),true)))):=by
 simp_all[EZ]
theorem Oy (x:Int):0<=x % 26/\x % 26<26:=mod_lt Z9
noncomputable def rV:PySem.Str:="abcdefghijklmnopqrstuvwxyz"
theorem EO:rV.cps.size=26:=H9
def Nk (x:Int):Nat:=rV.cps.toList.getD (x % 26).toNat 0
theorem Kf (x:Int):eG (.str rV) (.int (x % 26))=sS ⟨#[Nk x]⟩:=DL.Aa (Oy x).1 (by simp_all[EO,Oy]) H9
theorem Kg:∀i:_root_.Fin 26,rQ (rV.cps.toList.getD i.val 0)=true:=H9
theorem Kh:∀i j:_root_.Fin 26,rV.cps.toList.getD i.val 0=rV.cps.toList.getD j.val 0->i=j:=H9
theorem Dl (x:Int):rQ (Nk x)=true:=Kg ⟨(x % 26).toNat,N9⟩
theorem Nl {x y:Int}(h:Nk x=Nk y):x % 26=y % 26:=by
 have:=Kh ⟨(x % 26).toNat,N9⟩ ⟨(y % 26).toNat,N9⟩ h;grind
noncomputable def sg (cs:LN):LS:=cs.map λc=>⟨#[c]⟩
theorem Ki:∀cs:LN,((sg cs).map (·.length)).sum=cs.length
 |[]=>rr
 |c::cs=>by
  show 1+((sg cs).map _).sum=cs.length+1;rw[Ki cs];lia
theorem zx:∀(zs:LS)(y:Str),(Str.join ("" : Str) (y::zs)).cps.toList=(y::zs).flatMap λz=>z.cps.toList
 |[],y=>by rw[flatMap_cons,List.flatMap_nil,uP];rfl
 |z::r,y=>by
  have M:∀a b:Str,(a++b).cps.toList=a.cps.toList++b.cps.toList:=λa b=>by show(a.cps++b.cps).toList=_;simp
  show(y++("" : Str)++Str.join _ _).cps.toList=_;rw[M,M,zx r z,show("" : Str).cps.toList=[]from rr,uP];rfl
theorem Kj {zs:LS}(h:zs≠[]):(Txt.join ("" : Str) zs).cps.toList=zs.flatMap λz=>z.cps.toList:=by
 cases zs with
 |nil=>exact absurd rr h
 |cons y zs=>
  simp_all[Txt.join,StrLaws.glued_eq_join,zx]
theorem Bg {cs:LN}(h:cs≠[]):(Txt.join ("" : Str) (sg cs)).cps.toList=cs:=by
 simp_all[Kj,sg,List.flatMap_map]
theorem Vk {cs:LN}(h1:1<=cs.length)(M:cs.length<=8)(hl:∀c∈cs,rQ c=true):nX (Txt.join ("" : Str) (sg cs))=true:=by
 have e:=Bg (cs:=cs) (λz=>by rw[z]at h1;cases h1);unfold nX;rw[<-zp];simp_all
theorem Nm (cs:LN)(h:cs.length<=1000):Gm (.str "") (.lst ((sg cs).map .str))=sS (Txt.join ("" : Str) (sg cs)):=by
 show(eQ _).bind _=_;rw[r6];show(if _ then _ else _)=_;rw[Ki,show("" : Str).length=0 from rr,if_pos N9]
theorem Kk (c:Int):∃zs:LS,nH [.int c]=lT (zs.map .str)/\Nm7 zs:=by
 have t:=mod_lt (x:=c) (m:=8) Z9;obtain⟨n,hn⟩:∃n:Nat,1+c % 8=n:=⟨(1+c % 8).toNat,N9⟩;let bs:LN:=(List.range n).map λ(k:Nat)=>Nk (c / (3+4*k));have O:bs.length=n:=by simp[bs]
 have q:∀x∈bs,rQ x=true:=λx hx=>by obtain⟨k,_,rfl⟩:=vO hx;exact Dl _
 have hb:=f8 (fi:=kX (f2 dZ (fI 1) (f2 dD (am 0) (fI 8)))) (nT:=1) (cap:=[1,0]) (tg:=dS 0) (fe:=f2 eG (am 1) (f2 dD (f2 fg (am 2) (f2 dZ (fI 3) (f2 xU (fI 4) (am 0)))) (fI 26)))
  (ρ:=[sI c,sS rV,none,none,none,none,none]) (List.range n) (λ(k:Nat)=>.int k) _
  (by rw[ij (j:=n) (b:=false) (hn ▸ aP (.int 1) (.int (c % 8)) rr (im rr Z9) rr) N9,Et,uO];rfl) Y9 λk hk=>by
   have hk:=mem_range.mp hk;exact⟨_,rr,false,aP (.str rV) (.int (c / (3+4*k) % 26)) rr (im (aP (.int c) (.int (3+4*k)) rr (aP (.int 3) (.int (4*k)) rr (aP (.int 4) (.int k) rr rr (Bf _ N9)) rr) (R9 _ N9 N9)) Z9) (Kf _)⟩
 have f:(List.range n).map (λ(k:Nat)=>D.str ⟨#[Nk (c / (3+4*k))]⟩)=(sg bs).map .str:=by simp[sg,bs]
 rw[f]at hb;have r:=mod_lt (x:=c / 8) (m:=n) N9;obtain⟨a,ha⟩:∃a:Nat,c / 8 % n=a:=⟨(c / 8 % n).toNat,N9⟩;have U:a<bs.length:=N9
 let nm:Nat->LN:=λi=>bs.set a (Nk (c / 64+3*i));have M:∀i,(nm i).length=n:=λi=>by simp[nm,O]
 obtain⟨ρ',e,o,p,rfl⟩:=me (tg:=dS 5) (g:=AK) 5 (λi ρ=>∃o p:OB,ρ=[sI c,sS rV,lT ((sg bs).map .str),sI a,lT (((List.range i).map λi=>Txt.join ("" : Str) (sg (nm i))).map .str),o,p])
  _ ⟨none,none,rr⟩ (by
   rintro i ρ hi ⟨o,p,rfl⟩;have es:((sg bs).map D.str).set a (.str ⟨#[Nk (c / 64+3*i)]⟩)=(sg (nm i)).map .str:=by simp only[sg,nm,uO,List.map_set,Function.comp]
   refine⟨_,_,rr,.inl (b9 (ds:=(sg bs).map .str) V9 (bo _) (bv (xh (n:=a) (ds:=(sg bs).map .str) (d:=.str ⟨#[Nk (c / 64+3*i)]⟩) (b:=false) (b':=false) rr ?_ rr (by simpa [sg]using U) rr) (iL (d:=.str (Txt.join ("" : Str) (sg (nm i)))) (b:=false) rr ?_ rr (bA Y9)))),some (.int i,false),some (.lst ((sg (nm i)).map .str),true),?_⟩
   .exact aP (.str rV) (.int ((c / 64+3*i) % 26)) rr (im (aP (.int (c / 64)) (.int (3*i)) (u0 rr Z9 Z9) (aP (.int 3) (.int i) rr rr (Bf _ N9)) rr) Z9) (Kf _)
   .rw[es];exact aP (.str "") (.lst ((sg (nm i)).map .str)) rr rr (Nm _ (by rw[M];lia))
   .rw[es,List.range_succ];simp)
 refine⟨(List.range 5).map λi=>Txt.join ("" : Str) (sg (nm i)),ah rr (gA (.str rV) rr rr (b9 hb (bo _) (gA (.int a) ?_ rr (b9 (ds:=[]) T9 rr (bv (mi (ij (j:=5) (b:=false) rr Z9) e) (gD rr)))))),V9,?_,λz hz=>?_⟩
 .rw[<-ha];refine aP (.int (c / 8)) (.int n) (u0 rr Z9 Z9) ?_ (Ke _ N9);refine a0 [.lst ((sg bs).map .str)] (aV rr rr) ?_;rw[pB];simp[sg,O]
 .refine pairwise_map.mpr (List.Pairwise.imp_of_mem ?_ (List.nodup_range (n:=5)));intro i j hi hj s e;have e:=congrArg (λz:Str=>z.cps.toList) e;have e:nm i=nm j:=by
   have h1:∀i,nm i≠[]:=λi z=>by have:=M i;rw[z]at this;simp at this;lia
   simpa only[Bg (h1 i),Bg (h1 j)]using e
  have e:=congrArg (λl:LN=>l[a]?) e;simp only[nm,getElem?_set_self U,Option.some.injEq]at e;have:=Nl e;have hi:=mem_range.mp hi;have hj:=mem_range.mp hj;lia
 .obtain⟨i,_,rfl⟩:=vO hz;refine Vk (by rw[M];lia) (by rw[M];lia) λx hx=>?_;rcases List.mem_or_eq_of_mem_set hx with h|h
  .exact q x h
  .rw[h];exact Dl _
def PV (p:Str)(d:D):Bool:=Wo (dz [.str p,d]) (.bl true) false
def iY:LS->LD->Bool
 |p::ps,d::ds=>PV p d && iY ps ds
 |_,_=>true
theorem nY:∀ {ps:LS}{ds:LD},iY ps ds=true->∀x∈ps.zip ds,dz [.str x.1,x.2]=some (.bl true,false)
 |[],_,_,x,h=>by simp at h
 |_::_,[],_,x,h=>by simp at h
 |p::ps,d::ds,h1,x,h=>by
  have h1:=(vB _ _ ▸ h1:PV p d=true/\iY ps ds=true);rcases vP h with rfl|h
  .exact w9 h1.1
  .exact nY h1.2 x h
theorem aA {p:Str}{d:D}{ps:LS}{ds:LD}(h:PV p d=true)(r:iY ps ds=true):iY (p::ps) (d::ds)=true:=by unfold iY;rw[h,r];rfl
theorem jK:∀n:_root_.Fin 10,PV "day" (.int (n.val:Int))=true:=H9
theorem Kl:∀n:_root_.Fin 16,PV "of" (.int (n.val:Int))=true:=H9
theorem Km:∀n:_root_.Fin 4,PV "further" (.int (n.val:Int))=true:=H9
noncomputable def MK:LN:=[1,2,3,5,7]
theorem nZ:∀m∈MK,PV "matters" (.int ((m:Nat):Int))=true:=H9
theorem Bh:∀m∈MK,m∈MS:=Z9
noncomputable def RA:List (Int×OI):=[(0,some 4),(2,some 9),(1,some 4),(2,some 5),(3,some 6)]++([0,1,2,3,4]:LI).flatMap λa=>(a,none)::([6,7,8,9,10]:LI).map λb=>(a,some b)
theorem rW:∀x∈RA,PV "stretch" (fH x)=true:=H9
theorem u6 {p:Str}{d:D}(h:dz [.str p,d]=some (.bl true,false)):PV p d=true:=by unfold PV;rw[h];rfl
theorem u7 {z:Str}(h:nX z=true):PV "by" (.str z)=true:=u6 (xf H9 H9 (jJ h))
theorem Kn {z:Str}(h:nX z=true):PV "person" (.str z)=true:=u6 (xf H9 H9 (jJ h))
theorem Ko {z:Str}(h:nX z=true):PV "office" (.str z)=true:=u6 (xf H9 H9 (jJ h))
theorem Kp:PV "whom" .non=true:=H9
theorem Oz {z:Str}(h:nX z=true):PV "whom" (.str z)=true:=
 u6 (ah rr (aw (c2 H9) (aw (c3 H9) (aU (cq H9) (ak ((tY (p:=false) (b1:=false) (by simp ) λ_=>a0 _ rr (jJ h)).trans rr))))))
theorem RB {ps:LS}(h1:1<=ps.length)(M:ps.length<=8)(h:∀p∈ps,nX p=true):PV "pieces" (.tup (ps.map .str))=true:=u6 (EI (Bb h1 M h))
theorem Kq {c:Nat}{z:Str}(hc:c<3)(h:nX z=true):PV "changes" (.tup [.tup [.int (c:Int),.str z]])=true:=by
 have M:j6 [.tup [.int (c:Int),.str z]]=some (.bl true,false):=ah rr (aw (bx (p:=false) (q:=false) V9 λ_=>by simp) (ak ((bS (p:=true) (q:=true) (b1:=false) (a0 [.int (c:Int),.int 0,.int 7] (by simp[ra,gM]) (uy N9 N9)) λ_=>a0 [.str z] (by simp[at1]) (uz h)).trans rr)));have h1:=f8 (fi:=cb (am 0)) (nT:=1) (cap:=[]) (tg:=dS 0) (fe:=fA j6 (fV 0 av)) (ρ:=[sT _,none]) [()] _ (λ_=>.bl true) rr Z9 λ_ _=>⟨[sF _],rr,false,a0 _ rr M⟩;have h2:=f8 (fi:=cb (am 0)) (nT:=1) (cap:=[]) (tg:=dS 0) (fe:=jw 0 0) (ρ:=[sT _,none]) [()] _ (λ_=>.int (c:Int)) rr Z9 λ_ _=>⟨[sT [.int (c:Int),.str z]],rr,false,by simp[ra]⟩;have h3:=f8 (fi:=Gs (am 1) (sr (am 1) (dE (fI 1)) eO)) (nT:=2) (cap:=[]) (tg:=DM [0,1]) (fe:=f2 Wm (am 0) (am 1)) (ρ:=[sT [.tup [.int (c:Int),.str z]],lT [.int (c:Int)]]) ([]:List Unit) (λ_=>.non) (λ_=>.bl true) I9 Z9 λ_ h=>nomatch h;have O:ml [.tup _]=some (.bl true,false):=ah rr (aw (bx (p:=false) (q:=false) V9 λ_=>be (p:=true) (bW (b:=false) (aE (ds:=[.lst [.bl true]]) (a9 (b:=true) h1 rr) (mE [()])))) (b9 (ds:=[.int (c:Int)]) h2 rr (ak (aE (ds:=[.lst []]) (a9 (b:=true) h3 rr) (mE ([]:List Unit))))));exact u6 (ah rr (aw (c2 H9) (aw (c3 H9) (aw (cq H9) (aw (cq H9) (aw (cq H9) (aw (cq H9) (aw (cq H9) (aw (cq H9) (aw (cq H9) (ak (aE rr O))))))))))))
theorem Z2:gO ("office" : Str)=false:=H9
theorem ip2:gO ("matters" : Str)=false:=H9
theorem ip3:gO ("further" : Str)=false:=H9
theorem XN:gO ("day" : Str)=false:=H9
theorem Z3:gO ("person" : Str)=true:=H9
theorem ip8:gO ("by" : Str)=true:=H9
theorem XO:gO ("of" : Str)=false:=H9
theorem O0 {zs:LS}{k day:Nat}{h:Int}{kind:Str}{r:LD}(parts ss:LS)(hc:sA bI (.str kind)=some (.tup (parts.map .str),false))(hl:parts.length=(D.int (day:Int)::r).length)(hp:iY parts (.int (day:Int)::r)=true)(hk:EJ (parts.zip (.int (day:Int)::r))=ss.map .str)(O:∀s∈ss,s∈zs)(hf:(r.all λd=>aI d && !Aj d)=true)(hd:(day:Int)<=h)(h2:decide (ss.length<=2)=true:=by rfl)(M:decide (r.length<=9)=true:=by rfl)(hr:(decide (kind = "root") || decide (kind = "chosen"))=false:=by decide +kernel)(hi:lh bI (.str kind) (.str "day")=sI 0:=by exact bX):DeedG zs k h kind (.int (day:Int)::r):=
 have hr:=Bool.or_eq_false_iff.mp hr
 ⟨⟨parts,ss,hc,hl,nY hp,hk,ET h2,O⟩,by grind,λd hd=>by
  rcases vP hd with rfl|hd
  .exact⟨rr,rr⟩
  grind,.inr ⟨of_decide_eq_false hr.1,⟨day,_,rr,hd,N9,λe=>absurd e (of_decide_eq_false hr.2)⟩,hi⟩⟩
theorem zy (x:Int×OI):(aI (fH x) && !Aj (fH x))=true:=by rw[iz];rfl
theorem now {kind:Str}{ag:LD}(h:Int)(e:(decide (kind = "paper") || decide (kind = "like"))=false):xc (row h kind ag):=λz=>by
 have e:=Bool.or_eq_false_iff.mp e;rcases z with z|z
 .exact absurd z (of_decide_eq_false e.1)
 .exact absurd z (of_decide_eq_false e.2)
inductive Dk (zs:List Str):Nat->Str->List D->Prop
 |death (d:Nat) (hd:d<10) (p:Str) (hp:p∈zs):Dk zs d "death" [.int (d:Int),.str p]
 |named (d:Nat) (hd:d<10) (o p:Str) (ho:o∈zs) (hp:p∈zs):Dk zs d "named" [.int (d:Int),.str o,.str p]
 |copy (k:Str) (hk:k = "copy" \/ k = "call") (d:Nat) (hd:d<10) (b:Str) (hb:b∈zs) (n:Nat) (hn:n<16):Dk zs d k [.int (d:Int),.str b,.int (n:Int)]
 |leave (d:Nat) (hd:d<10) (b o:Str) (hb:b∈zs) (ho:o∈zs) (m:Nat) (hm:m∈MK) (x:Int×Option Int) (hx:x∈RA) (f:Nat) (hf:f<4):Dk zs d "leave" [.int (d:Int),.str b,.str o,.int (m:Int),fH x,.int (f:Int)]
 |paper (d:Nat) (hd:d<10) (b:Str) (hb:b∈zs) (m:Nat) (hm:m∈MK) (x:Int×Option Int) (hx:x∈RA) (w:D) (hw:w=.non\/∃z∈zs,w=.str z) (ps:List Str) (h1:1<=ps.length) (h3:ps.length<=3) (hp:∀p∈ps,p∈zs):Dk zs d "paper" [.int (d:Int),.str b,.int (m:Int),fH x,w,.tup (ps.map .str)]
 |like (d:Nat) (hd:d<10) (b:Str) (hb:b∈zs) (m:Nat) (hm:m∈MK) (x:Int×Option Int) (hx:x∈RA) (w:D) (hw:w=.non\/∃z∈zs,w=.str z) (n:Nat) (hn:n<16) (c:Nat) (hc:c<3) (p:Str) (hp:p∈zs):Dk zs d "like" [.int (d:Int),.str b,.int (m:Int),fH x,w,.int (n:Int),.tup [.tup [.int (c:Int),.str p]]]
structure Dw (zs:List Str)(k day:Nat)(kind:Str)(ag:List D):Prop where
 dd:Dd kind ag
 g:∀h:Int,(day:Int)<=h->DeedG zs k h kind ag
 w:∀h:Int,xc (row h kind ag)
 q:∀h:Int,Rq (row h kind ag)
 r:decide (kind = "root")=false
theorem z4 {kind:Str}{ag:LD}(h:Int)(e:decide (kind∈ci)=false):Rq (row h kind ag):=.non _ (of_decide_eq_false e)
theorem Dk.dw {zs:LS}(M:Nm7 zs){d k:Nat}{kind:Str}{ag:LD}(h:Dk zs d kind ag):Dw zs k d kind ag:=by
 cases h with
 |death d hd p hp=>exact⟨.three _ (.inl rr) _ _,λh hh=>O0 ["day","person"] [p] bX rr (aA (jK ⟨d,hd⟩) (aA (Kn (M.nm _ hp)) rr)) (by simp[EJ,XN,Z3]) (by simpa using hp) rr hh,λh=>now h H9,λh=>z4 h H9,H9⟩
 |named d hd o p ho hp=>exact⟨.named _ _ _,λh hh=>O0 ["day","office","person"] [p] bX rr (aA (jK ⟨d,hd⟩) (aA (Ko (M.nm _ ho)) (aA (Kn (M.nm _ hp)) rr))) (by simp[EJ,Z2,XN,Z3]) (by simpa using hp) rr hh,λh=>now h H9,λh=>z4 h H9,H9⟩
 |copy kind hk d hd b hb n hn=>
  refine⟨.copy _ hk _ _ _,λh hh=>?_,λh=>now h (by rcases hk with rfl|rfl<;>decide +kernel),λh=>?_,by rcases hk with rfl|rfl<;>decide +kernel⟩
  .rcases hk with rfl|rfl<;>exact O0 ["day","by","of"] [b] bX rr (aA (jK ⟨d,hd⟩) (aA (u7 (M.nm _ hb)) (aA (Kl ⟨n,hn⟩) rr))) (by simp[EJ,XN,ip8,XO]) (by simpa using hb) rr hh
  .rcases hk with rfl|rfl
   .exact .copy h _ n rr
   .exact z4 h H9
 |leave d hd b o hb ho m hm x hx f hf=>exact⟨.leave _ _ _ m (Bh m hm) x _,λh hh=>O0 ["day","by","person","matters","stretch","further"] [b,o] bX rr (aA (jK ⟨d,hd⟩) (aA (u7 (M.nm _ hb)) (aA (Kn (M.nm _ ho)) (aA (nZ m hm) (aA (rW x hx) (aA (Km ⟨f,hf⟩) rr)))))) I9 (by simp[hb,ho]) (by simp only[all_cons,zy];rfl) hh,λh=>now h H9,λh=>z4 h H9,H9⟩
 |paper d hd b hb m hm x hx w hw ps h1 h3 hp=>
  have O:=RB h1 N9 λz hz=>M.nm _ (hp z hz);have fl:(aI (.tup (ps.map D.str)) && !Aj (.tup (ps.map D.str)))=true:=by rw[tq,bo];rfl
  refine⟨.paper "paper" (.inl rr) _ _ m (Bh m hm) x _ (by rcases hw with rfl|⟨z,_,rfl⟩<;>simp[bo]) (by rcases hw with rfl|⟨z,_,rfl⟩<;>simp),λh hh=>?_,λh _=>⟨x,w,_,_,_,_,m,_,.inl rr,rr,hw.imp id λ⟨z,_,e⟩=>⟨z,e⟩⟩,λh=>.paper h _ ps rr h3,H9⟩
  rcases hw with rfl|⟨z,hz,rfl⟩
  .exact O0 ["day","by","matters","stretch","whom","pieces"] [b] bX rr (aA (jK ⟨d,hd⟩) (aA (u7 (M.nm _ hb)) (aA (nZ m hm) (aA (rW x hx) (aA Kp (aA O rr)))))) I9 (by simpa using hb) (by simp only[all_cons,zy,fl];rfl) hh
  .exact O0 ["day","by","matters","stretch","whom","pieces"] [b,z] bX rr (aA (jK ⟨d,hd⟩) (aA (u7 (M.nm _ hb)) (aA (nZ m hm) (aA (rW x hx) (aA (Oz (M.nm _ hz)) (aA O rr)))))) I9 (by simp[hb,hz]) (by simp only[all_cons,zy,fl];rfl) hh
 |like d hd b hb m hm x hx w hw n hn c hc p hp=>
  refine⟨.paper _ (.inr rr) _ _ m (Bh m hm) x _ (by rcases hw with rfl|⟨z,_,rfl⟩<;>rfl) (by rcases hw with rfl|⟨z,_,rfl⟩<;>rfl),λh hh=>?_,λh _=>⟨x,w,_,_,_,_,m,_,.inr rr,rr,hw.imp id λ⟨z,_,e⟩=>⟨z,e⟩⟩,λh=>.like h _ n c p rr rr,H9⟩
  rcases hw with rfl|⟨z,hz,rfl⟩
  .exact O0 ["day","by","matters","stretch","whom","of","changes"] [b] bX rr (aA (jK ⟨d,hd⟩) (aA (u7 (M.nm _ hb)) (aA (nZ m hm) (aA (rW x hx) (aA Kp (aA (Kl ⟨n,hn⟩) (aA (Kq hc (M.nm _ hp)) rr))))))) I9 (by simpa using hb) (by simp only[all_cons,zy];rfl) hh
  .exact O0 ["day","by","matters","stretch","whom","of","changes"] [b,z] bX rr (aA (jK ⟨d,hd⟩) (aA (u7 (M.nm _ hb)) (aA (nZ m hm) (aA (rW x hx) (aA (Oz (M.nm _ hz)) (aA (Kl ⟨n,hn⟩) (aA (Kq hc (M.nm _ hp)) rr))))))) I9 (by simp[hb,hz]) (by simp only[all_cons,zy];rfl) hh
def Rg (B:Int)(zs:LS)(r:D):Prop:=∃(h:Int)(kind:Str)(ag:LD)(day:Nat),r=row h kind ag/\(day:Int)<=h/\h<=B/\Dk zs day kind ag
theorem f9 {α:Type}(l:List α)(F:α->D){ρ:DL.Env}{fl fx:FE}{b:Bool}{a m:Int}(M:fl ρ=some (.lst (l.map F),b))(ex:fx ρ=sI a)(h0:0<m)(hm:m<=l.length):∃x∈l.take m.toNat,f2 eG fl (f2 dD fx (fI m)) ρ=some (F x,false):=by
 have h:=mod_lt (x:=a) h0;obtain⟨j,hj⟩:∃j:Nat,a % m=j:=⟨(a % m).toNat,N9⟩;have hl:j<l.length:=N9
 refine⟨l[j],List.mem_take_iff_getElem.mpr ⟨j,N9,rr⟩,eW M (hj ▸ im ex h0) ?_⟩;simp_all[aY]
theorem xi {zs:LS}(M:Nm7 zs)(j:Nat)(hj:j<5):∃z∈zs,∀ {ρ:DL.Env}{i:Nat},ρ[i]? = some (sL (zs.map .str))->jw i (j:Int) ρ=sS z:=by
 have hl:j<zs.length:=by rw[M.len];exact hj
 refine⟨zs[j],getElem_mem hl,λ{ρ i} h=>?_⟩;simp_all[aY]
noncomputable def W8:LS:=[("paper" : Str),"paper","paper","copy","like","call","death","leave"]
theorem w8:∀w∈W8,w = "leave" \/ w = "paper" \/ w = "like" \/ (w = "copy" \/ w = "call")\/w = "death":=H9
theorem mk4:∀m∈([3,1,2,7]:LN),m∈MK:=Z9
theorem lt3:∀m∈([0,0,1,2]:LN),m<3:=Z9
theorem le4:∀m∈([0,0,1,4]:LN),m<=4:=Z9
noncomputable def Vl (d:Nat):List (Int×OI):=[(0,none),((d:Int),some ((d:Int)+3)),(2,some 9),(0,some 4)]
theorem XQ:∀d:_root_.Fin 4,1<=d.val->∀x∈Vl d.val,x∈RA:=H9
theorem Dk.day {zs:LS}{d:Nat}{kind:Str}{ag:LD}(h:Dk zs d kind ag):∃r,ag=.int (d:Int)::r:=by cases h<;>exact⟨_,rr⟩
section
variable {zs:LS}(z7:Nm7 zs)
include z7
theorem xj {ρ:DL.Env}{i:Nat}{fx:FE}{j:Int}(h:ρ[i]? = some (sL (zs.map .str)))(e:fx ρ=sI j)(h0:0<=j)(h5:j<5):∃z∈zs,f2 eG (am i) fx ρ=sS z:=by
 obtain⟨z,hz,M⟩:=Rn (i:=j) N9 (by rw[z7.len];exact h5);exact⟨z,hz,aP _ _ (by simp[h]) e M⟩
theorem Nn {aa:LD}(h2:2<=aa.length)(h3:aa.length<=3)(c:Int):∃d kind ag,yQ [.lst aa,.int c,.lst (zs.map .str)]=sT (.str kind::ag)/\Dk zs d kind ag/\d<=6:=by
 obtain⟨w,hw,C⟩:=f9 W8 D.str (ρ:=[sL aa,sI c,sL (zs.map .str),none,none,none,none,none]) (fl:=fA fy (ao (fS "paper") (ao (fS "paper") (ao (fS "paper") (ao (fS "copy") (ao (fS "like") (ao (fS "call") (ao (fS "death") (ao (fS "leave") av))))))))) (fx:=am 1) (b:=true) (a:=c) (m:=8) (a0 (W8.map .str) rr (cz _ (by simp[W8]))) rr Z9 Z9;have hw:=w8 w (mem_of_mem_take hw);have Z:=mod_lt (x:=c / 8) (m:=3) Z9;obtain⟨d,F⟩:∃d:Nat,(aa.length:Int) / 2+c / 8 % 3=d:=⟨((aa.length:Int) / 2+c / 8 % 3).toNat,N9⟩;have r:1<=d:=N9
 have s:d<4:=N9
 have hd:d<10:=N9
 have ed:f2 dZ (f2 fg (fA pR (fV 0 av)) (fI 2)) (f2 dD (f2 fg (am 1) (fI 8)) (fI 3)) [sL aa,sI c,sL (zs.map .str),sS w,none,none,none,none]=sI d:=
  F ▸ aP (.int ((aa.length:Int) / 2)) (.int (c / 8 % 3)) (u0 (a0 [.lst aa] rr pB) Z9 Z9) (im (u0 rr Z9 Z9) Z9) rr
 obtain⟨G,A,t⟩:=f9 ([0,0,1,2]:LN) (λm=>.int (m:Int)) (ρ:=[sL aa,sI c,sL (zs.map .str),sS w,sI d,none,none,none]) (fl:=fA fy (ao (fI 0) (ao (fI 0) (ao (fI 1) (ao (fI 2) av))))) (fx:=f2 fg (am 1) (fI 24)) (b:=true) (a:=c / 24) (m:=4) (a0 [.int 0,.int 0,.int 1,.int 2] rr (cz _ V9)) (u0 rr Z9 Z9) Z9 Z9;have A:=lt3 G (mem_of_mem_take A);obtain⟨b,hb,H⟩:=xj z7 (ρ:=[sL aa,sI c,sL (zs.map .str),sS w,sI d,none,none,none]) (i:=2) rr t N9 N9;obtain⟨x,hx,ex⟩:=f9 (Vl d) fH (ρ:=[sL aa,sI c,sL (zs.map .str),sS w,sI d,sS b,none,none])
  (fl:=fA fy (ao (fA cn (ao (fI 0) (ao (fC .non) av))) (ao (fA cn (fV 4 (ao (f2 dZ (am 4) (fI 3)) av))) (ao (fA cn (ao (fI 2) (ao (fI 9) av))) (ao (fA cn (ao (fI 0) (ao (fI 4) av))) av)))))
  (fx:=f2 fg (am 1) (fI 96)) (b:=true) (a:=c / 96) (m:=4) (a0 ((Vl d).map fH) (aV (a0 [.int 0,.non] rr (aW _ V9)) (aV (a0 [.int d,.int (d+3)] rr (aW _ V9)) (aV (a0 [.int 2,.int 9] rr (aW _ V9)) (aV (a0 [.int 0,.int 4] rr (aW _ V9)) rr)))) (cz _ (by simp[Vl]))) (u0 rr Z9 Z9) Z9 (by simp[Vl])
 have hx:=XQ ⟨d,s⟩ r x (mem_of_mem_take hx);obtain⟨m,hm,I⟩:=f9 ([3,1,2,7]:LN) (λm=>.int (m:Int)) (ρ:=[sL aa,sI c,sL (zs.map .str),sS w,sI d,sS b,some (fH x,false),none]) (fl:=fA fy (ao (fI 3) (ao (fI 1) (ao (fI 2) (ao (fI 7) av))))) (fx:=f2 fg (am 1) (fI 384)) (b:=true) (a:=c / 384) (m:=4) (a0 [.int 3,.int 1,.int 2,.int 7] rr (cz _ V9)) (u0 rr Z9 Z9) Z9 Z9;have hm:=mk4 m (mem_of_mem_take hm);let E:DL.Env:=[sL aa,sI c,sL (zs.map .str),sS w,sI d,sS b,some (fH x,false),sI m];have O:∀v,bD (f2 je (am 3) (fS v)) E=some (decide (w=v)):=λv=>bZ (aP (.str w) (.str v) rr rr (Bc _ _));have ti:bD (f2 LJ (am 3) (fA cn (ao (fS "copy") (ao (fS "call") av)))) E=some (decide (w∈[("copy" : Str),"call"])):=bZ (aP (.str w) (.tup [.str "copy",.str "call"]) rr (a0 [.str "copy",.str "call"] rr (aW _ V9)) (dO w [("copy" : Str),"call"]));have num:∀(q k:Int),0<q->q<1073741824->0<k->k<=16->∃n:Nat,(n:Int)<k/\f2 dD (f2 fg (am 1) (fI q)) (fI k) E=sI n:=λq k J q2 k1 k2=>by
  have h:=mod_lt (x:=c / q) (m:=k) k1;refine⟨(c / q % k).toNat,N9,?_⟩;rw[Int.toNat_of_nonneg h.1];exact im (u0 rr J q2) k1
 obtain⟨n6,K,e⟩:=num 1536 6 Z9 Z9 Z9 Z9;have dv:∀ {T:FS}{d':D},T E=some (.rt d' false)->bd (cP 3 _) (bd (cP 4 _) (bd (cP 5 _) (bd (cP 6 _) (bd (cP 7 _) T)))) [sL aa,sI c,sL (zs.map .str),none,none,none,none,none]=some (.rt d' false):=λL=>
  gA (.str w) C rr (gA (.int d) ed rr (gA (.str b) H rr (gA (fH x) ex (iz _) (gA (.int m) I rr L))))
 rcases hw with rfl|rfl|rfl|hw|rfl
 .obtain⟨n2,g,M⟩:=num 1536 2 Z9 Z9 Z9 Z9;obtain⟨f,hf,N⟩:=num 3072 3 Z9 Z9 Z9 Z9;obtain⟨o,ho,u⟩:=xj z7 (ρ:=E) (i:=2) (fx:=f2 dZ (fI 1) (f2 dD (f2 fg (am 1) (fI 1536)) (fI 2))) (j:=1+n2) rr (aP (.int 1) (.int n2) rr M rr) N9 N9;exact⟨d,_,_,ah rr (dv (aU ((O "leave").trans H9) (ak (a0 [.str "leave",.int d,.str b,.str o,.int m,fH x,.int f] (aV rr (aV rr (aV rr (aV u (aV rr (aV rr (aV N rr))))))) (aW _ V9))))),.leave d hd b o hb ho m hm x hx f N9,N9⟩
 .obtain⟨v,hv,P⟩:=f9 ([.non,.str b]:LD) id (ρ:=E) (fl:=fA fy (ao (fC .non) (fV 5 av))) (fx:=f2 fg (am 1) (fI 1536)) (b:=true) (a:=c / 1536) (m:=2) (a0 [.non,.str b] rr (cz _ V9)) (u0 rr Z9 Z9) Z9 V9;have hv:v=.non\/∃z∈zs,v=.str z:=by grind
  obtain⟨n2,g,M⟩:=num 3072 2 Z9 Z9 Z9 Z9;obtain⟨U,h0,Q⟩:=xi z7 0 Z9;have R:∃ps:LS,1<=ps.length/\ps.length<=3/\(∀p∈ps,p∈zs)/\f2 Oc (fA cn (ao (jw 2 0) av)) (f2 dZ (fI 1) (f2 dD (f2 fg (am 1) (fI 3072)) (fI 2))) E=sT (ps.map .str):=by
   have B:fA cn (ao (jw 2 0) av) E=sT [.str U]:=a0 [.str U] (aV (Q rr) rr) (aW _ V9);have hn:n2=0\/n2=1:=N9
   rcases hn with rfl|rfl
   .exact⟨[U],V9,V9,by simpa using h0,aP (.tup [.str U]) (.int 1) B (aP (.int 1) (.int 0) rr M rr) rr⟩
   .exact⟨[U,U],V9,V9,by simpa using h0,aP (.tup [.str U]) (.int 2) B (aP (.int 1) (.int 1) rr M rr) rr⟩
  obtain⟨ps,S,V,W,X⟩:=R;exact⟨d,_,_,ah rr (dv (aw ((O "leave").trans H9) (aU ((O "paper").trans H9) (ak (a0 [.str "paper",.int d,.str b,.int m,fH x,v,.tup (ps.map .str)] (aV rr (aV rr (aV rr (aV rr (aV rr (aV P (aV X rr))))))) (aW _ V9)))))),.paper d hd b hb m hm x hx v hv ps S V W,N9⟩
 .obtain⟨n2,g,M⟩:=num 9216 2 Z9 Z9 Z9 Z9;obtain⟨l,h2,e2⟩:=xi z7 2 Z9;exact⟨d,_,_,ah rr (dv (aw ((O "leave").trans H9) (aw ((O "paper").trans H9) (aU ((O "like").trans H9) (ak (a0 [.str "like",.int d,.str b,.int m,fH x,.non,.int n6,.tup [.tup [.int n2,.str l]]] (aV rr (aV rr (aV rr (aV rr (aV rr (aV rr (aV e (aV (a0 [.tup [.int n2,.str l]] (aV (a0 [.int n2,.str l] (aV M (aV (e2 rr) rr)) (aW _ V9)) rr) (aW _ V9)) rr)))))))) (aW _ V9))))))),.like d hd b hb m hm x hx .non (.inl rr) n6 N9 n2 N9 l h2,N9⟩
 .have hn:∀v∈[("leave" : Str),"paper","like"],decide (w=v)=false:=by rcases hw with rfl|rfl<;>decide +kernel
  have hi:decide (w∈[("copy" : Str),"call"])=true:=by grind
  exact⟨d,_,_,ah rr (dv (aw ((O "leave").trans (by rw[hn _ V9])) (aw ((O "paper").trans (by rw[hn _ V9])) (aw ((O "like").trans (by rw[hn _ V9])) (aU (ti.trans (by rw[hi])) (ak (a0 [.str w,.int d,.str b,.int n6] (aV rr (aV rr (aV rr (aV e rr)))) (aW _ V9)))))))),.copy w hw d hd b hb n6 N9,N9⟩
 .obtain⟨n3,Y,y⟩:=num 1536 3 Z9 Z9 Z9 Z9;obtain⟨o,ho,u⟩:=xj z7 (ρ:=E) (i:=2) (fx:=f2 dD (f2 fg (am 1) (fI 1536)) (fI 3)) (j:=n3) rr y N9 N9;exact⟨d+2,_,_,ah rr (dv (aw ((O "leave").trans H9) (aw ((O "paper").trans H9) (aw ((O "like").trans H9) (aw (ti.trans H9) (ak (a0 [.str "death",.int ((d+2:Nat):Int),.str o] (aV rr (aV rr (aV u rr))) (aW _ V9)))))))),.death (d+2) N9 o ho,N9⟩
end
noncomputable def RL:LS:=[("open" : Str),"first","last"]
theorem Vm:∀r∈RL,PV "rule" (.str r)=true:=H9
theorem ip4:gO ("rule" : Str)=false:=H9
theorem Kr {zs:LS}(M:Nm7 zs):off zs 0∈zs:=by
 have:4<zs.length:=by rw[M.len];decide
 simp_all [off]
def Rt (zs:LS)(r:D):Prop:=∃rl∈RL,r=row 0 "root" [.str (off zs 0),.int (7:Nat),.int (2:Nat),.str rl]
def GR (B:Int)(zs:LS)(aa:LD):Prop:=∃M ag,aa=M::ag/\Rt zs M/\∀r∈ag,Rg B zs r
section
variable {B:Int}{zs:LS}{aa:LD}(g:GR B zs aa)
include g
theorem GR.snoc {r:D}(h:Rg B zs r):GR B zs (aa++[r]):=by
 obtain⟨M,ag,rfl,h0,h1⟩:=g;refine⟨M,ag++[r],rr,h0,λq hq=>?_⟩;grind
theorem GR.set {r:D}(h:Rg B zs r)(i:Nat)(hi:1<=i):GR B zs (aa.set i r):=by
 obtain⟨M,ag,rfl,h0,h1⟩:=g;obtain⟨i,rfl⟩:∃j,i=j+1:=⟨i - 1,N9⟩;refine⟨M,ag.set i r,rr,h0,λq hq=>?_⟩;grind
theorem GR.take (n:Nat):GR B zs (aa.take (n+1)):=by
 obtain⟨M,ag,rfl,h0,h1⟩:=g;exact⟨M,ag.take n,rr,h0,λq hq=>h1 q (mem_of_mem_take hq)⟩
theorem GR.pop (h:2<=aa.length):GR B zs aa.dropLast:=by
 rw[List.dropLast_eq_take];obtain⟨n,hn⟩:∃n,aa.length - 1=n+1:=⟨aa.length - 2,N9⟩;rw[hn];exact g.take n
theorem GR.at1 {i:Nat}(hi:1<=i){r:D}(h:aa[i]? = some r):Rg B zs r:=by
 obtain⟨M,ag,rfl,h0,h1⟩:=g;obtain⟨i,rfl⟩:∃j,i=j+1:=⟨i - 1,N9⟩;exact h1 r (vL h)
theorem GR.mono {C:Int}(h:B<=C):GR C zs aa:=by
 obtain⟨M,ag,e,h0,h1⟩:=g;refine⟨M,ag,e,h0,λr hr=>?_⟩;obtain⟨a,kind,O,d,e,l,u,k⟩:=h1 r hr;exact⟨a,kind,O,d,e,l,Int.le_trans u h,k⟩
theorem GR.all (M:Nm7 zs):∀r∈aa,b7 r/\xc r/\Rq r:=by
 obtain⟨U,ag,rfl,⟨rl,hr,rfl⟩,h1⟩:=g;intro r h;rcases vP h with rfl|h
 .exact⟨⟨0,_,_,rr,.root _ _ 7 Z9 _⟩,now 0 H9,z4 0 H9⟩
 .obtain⟨a,kind,O,d,rfl,_,_,k⟩:=h1 r h;have w:=k.dw M (k:=1);exact⟨⟨a,kind,O,rr,w.dd⟩,w.w a,w.q a⟩
theorem GR.flat (M:Nm7 zs):aQ aa=true:=bL λd hd=>(g.all M d hd).1.flat
theorem GR.reg (b:B<=9999)(M:Nm7 zs)(hl:aa.length<=24)(d:D)(hd:d=.lst aa\/d=.tup aa):ca [d]=some (.tup aa,false):=by
 refine oV ⟨⟨hl,M⟩,λj r h=>?_⟩ (g.flat M) d hd;obtain⟨c,ag,rfl,⟨rl,hr,rfl⟩,h1⟩:=g;match j,h with
 |0,h=>
  cases h
  refine⟨0,_,_,rr,Z9,Z9,⟨["office","matters","further","rule"],[],bX,rr,nY (aA (Ko (M.nm _ (Kr M))) (aA (nZ 7 Z9) (aA (Km ⟨2,Z9⟩) (aA (Vm _ hr) rr)))),by simp[EJ,Z2,ip2,ip3,ip4],Z9,V9⟩,V9,λd hd=>?_,.inl ⟨rr,.inl rr,_,rr⟩⟩;simp [mem_cons,not_mem_nil,or_false]at hd;rcases hd with rfl|rfl|rfl|rfl<;>exact⟨rr,rr⟩
 |j+1,h=>
  obtain⟨a,kind,O,d,rfl,U,e2,k⟩:=h1 r (vL h);exact⟨a,kind,O,rr,N9,N9,(k.dw M).g a U⟩
theorem GR.off (M:Nm7 zs)(ae:Int):((bw (aj aa ae)).map (aM 0)).Nodup:=by
 refine List.Nodup.sublist (JQ _ _) ?_;obtain⟨O,ag,rfl,h0,h1⟩:=g;have:(ag.filter aJ)=[]:=List.filter_eq_nil_iff.mpr λr hr=>by
  obtain⟨a,kind,U,d,rfl,_,_,k⟩:=h1 r hr;have:=(k.dw M (k:=1)).r;show ¬decide (kind = "root")=true;lia
 grind[Ot]
end
theorem No {ns:LI}(hf:S9 ns){zs:LS}(O:Nm7 zs){aa:LD}(g:GR 50 zs aa)(h2:2<=aa.length)(h3:aa.length<=3){i:Nat}(hi:i<=90)(U a:OB):∃r c e,ue [sL (ns.map .int),sL (zs.map .str),lT aa,sI i,U,a]=some (.nx [sL (ns.map .int),sL (zs.map .str),lT (aa++[r]),sI i,c,e])/\Rg 50 zs r:=by
 obtain⟨f,h⟩:=km hf (4+i) N9;obtain⟨d,kind,ag,ed,dk,hd⟩:=Nn O h2 h3 _;obtain⟨o,M⟩:=dk.day;obtain⟨l,hl,j⟩:=f9 ([0,0,1,4]:LN) (λm=>.int (m:Int)) (ρ:=[sF _,sF _,lT aa,sI i,sF _,sF _]) (fl:=fA fy (ao (fI 0) (ao (fI 0) (ao (fI 1) (ao (fI 4) av))))) (fx:=f2 fg (am 4) (f2 TZ (fI 10) (fI 6))) (b:=true) (m:=4) (a0 _ rr (cz _ V9)) (aP _ (.int 1000000) rr (aP (.int 10) (.int 6) rr rr rr) (R9 _ Z9 Z9)) Z9 Z9;have hl:=le4 l (mem_of_mem_take hl);have w:=dk.dw O (k:=1);have fl:=by have:=w.dd.flat;simpa using this
 have n:aI (row ((d:Int)+l) kind ag)=true:=(b7.flat ⟨_,kind,ag,rr,w.dd⟩);refine⟨row _ kind ag,_,_,gA _ (aP (.int f) _ (a0 _ (aV rr (aV (aP (.int 4) (.int i) rr rr rr) rr)) h) (aP (.int 10) (.int 12) rr rr rr) (Ke _ Z9)) rr (gA _ (a0 _ rr ed) fl (iL (b:=false) rr (a0 _ (aV (aP (.int d) (.int l) ?_ j rr) rr) (aW _ V9)) n (bA N9))),_,kind,ag,d,rr,N9,N9,dk⟩;rw[M];simp[at1]
theorem Np {ns:LI}(hf:S9 ns){zs:LS}(O:Nm7 zs):∃aa,qZ [.lst (ns.map .int),.lst (zs.map .str)]=lT aa/\GR 50 zs aa/\3<=aa.length/\aa.length<=4:=by
 obtain⟨k,l⟩:=km hf 1 Z9;obtain⟨c2,o⟩:=km hf 2 Z9;have q:∀ρ:DL.Env,ρ[0]? = some (sL (ns.map .int))->fA eY (fV 0 (ao (fI 1) av)) ρ=sI k:=λρ h=>a0 [.lst (ns.map .int),.int 1] (by simp[h]) l;obtain⟨rl,hr,er⟩:=f9 RL D.str (ρ:=[sL (ns.map .int),sL (zs.map .str),none,none,none,none]) (fl:=fA fy (ao (fS "open") (ao (fS "first") (ao (fS "last") av)))) (fx:=fA eY (fV 0 (ao (fI 1) av))) (b:=true) (a:=k) (m:=3) (a0 (RL.map .str) rr (cz _ (by simp[RL]))) (q _ rr) Z9 Z9;have hr:=mem_of_mem_take hr;have s:∀ρ:DL.Env,ρ[1]? = some (sL (zs.map .str))->jw 1 4 ρ=sS (off zs 0):=λρ h=>by
  have hl:4<zs.length:=by rw[O.len];decide
  have:(zs.map D.str)[4]? = some (.str (off zs 0)):=by simp_all [off]
  have:=aY this;simp_all
 obtain⟨t,h0,u⟩:=xi O 0 Z9;let R:D:=row 0 "root" [.str (off zs 0),.int (7:Nat),.int (2:Nat),.str rl];let N:D:=row (k / 3 % 3) "named" [.int (0:Nat),.str (off zs 0),.str t];have v:GR 50 zs [R,N]:=⟨R,[N],rr,⟨rl,hr,rr⟩,λr h=>by
  rw[uS h];exact⟨_,_,_,0,rr,N9,N9,.named 0 Z9 _ _ (Kr O) h0⟩⟩
 have m2:=mod_lt (x:=c2) (m:=2) Z9;obtain⟨n,hn⟩:∃n:Nat,1+c2 % 2=n:=⟨(1+c2 % 2).toNat,N9⟩;obtain⟨ρ',e,M,p,U,c,rfl,f,hs⟩:=me (tg:=dS 3) (g:=ue) n (λi ρ=>∃(M:LD)(p U c:OB),ρ=[sL (ns.map .int),sL (zs.map .str),lT M,p,U,c]/\GR 50 zs M/\M.length=2+i)
  _ ⟨[R,N],none,none,none,rr,v,rr⟩ (by
   rintro i ρ hi ⟨M,p,U,c,rfl,f,hs⟩;obtain⟨r,w,y,e,hr⟩:=No hf O f N9 N9 (i:=i) N9 U c;exact⟨_,_,rr,.inl e,M++[r],_,_,_,rr,f.snoc hr,by rw[uY,length_singleton];lia⟩)
 refine⟨M,ah rr (b9 (ds:=[R]) ?_ rr (bv (iL (ds:=[R]) (d:=N) (b:=false) rr ?_ rr (bA V9)) (bv (mi (ij (j:=n) (b:=false) (hn ▸ aP (.int 1) (.int (c2 % 2)) rr (im (a0 [.lst (ns.map .int),.int 2] rr o) Z9) rr) N9) e) (gD rr)))),f,N9,N9⟩
 .exact a0 [R] (aV (a0 _ (aV rr (aV (a0 _ (aV rr (aV (s _ rr) (aV rr (aV rr (aV er rr))))) (aW _ V9)) rr)) (aW _ V9)) rr) (cz _ V9)
 .exact a0 _ (aV (im (u0 (q _ rr) Z9 Z9) Z9) (aV (a0 [.str "named",.int 0,.str (off zs 0),.str t] (aV rr (aV rr (aV (s _ rr) (aV (u rr) rr)))) (aW _ V9)) rr)) (aW _ V9)
section
variable {c:Int}{ρ:DL.Env}(h1:ρ[1]? = some (sI c))
include h1
theorem m8 (j:Int):bD (f2 je (f2 dD (am 1) (fI 8)) (fI j)) ρ=some (decide (c % 8=j)):=bZ (aP (.int (c % 8)) (.int j) (im (by simp[h1]) Z9) rr V9)
theorem sk {A:FS}{j:Int}(hj:c % 8≠j):p5 (bD (f2 je (f2 dD (am 1) (fI 8)) (fI j))) A eN ρ=some (.nx ρ):=gL ((m8 h1 j).trans (by rw[ES hj])) rr
theorem Ws {t:FT}{A:FS}{j:Int}(hj:c % 8≠j):p5 (ft (bD (f2 je (f2 dD (am 1) (fI 8)) (fI j))) t) A eN ρ=some (.nx ρ):=gL ((ce (q:=false) (m8 h1 j) λz=>absurd (ET z) hj).trans (by rw[Bool.and_false])) rr
end
theorem pv {g h i j l m n o T:FS}{M O U a b c d e f:DL.Env}{r:Option Res}(h0:g M=some (.nx O))(h1:h O=some (.nx U))(h2:i U=some (.nx a))(h3:j a=some (.nx b))(h4:l b=some (.nx c))(h5:m c=some (.nx d))(p:n d=some (.nx e))(q:o e=some (.nx f))(k:T f=r):bd g (bd h (bd i (bd j (bd l (bd m (bd n (bd o T))))))) M=r:=
 bv h0 (bv h1 (bv h2 (bv h3 (bv h4 (bv h5 (bv p (bv q k)))))))
theorem Wt {t:FT}{A:FS}{ρ σ:DL.Env}{c j:Int}(h1:ρ[1]? = some (sI c))(hj:c % 8=j)(M:t ρ=some true)(e:A ρ=some (.nx σ)):p5 (ft (bD (f2 je (f2 dD (am 1) (fI 8)) (fI j))) t) A eN ρ=some (.nx σ):=kx ((ce (m8 h1 j) λ_=>M).trans (by rw[xw hj];rfl)) e
theorem Wu {t:FT}{A:FS}{ρ:DL.Env}{c j:Int}(h1:ρ[1]? = some (sI c))(M:t ρ=some false):p5 (ft (bD (f2 je (f2 dD (am 1) (fI 8)) (fI j))) t) A eN ρ=some (.nx ρ):=gL ((ce (m8 h1 j) λ_=>M).trans (by rw[Bool.and_false])) rr
theorem SD {A:FS}{ρ σ:DL.Env}{c j:Int}(h1:ρ[1]? = some (sI c))(hj:c % 8=j)(e:A ρ=some (.nx σ)):p5 (bD (f2 je (f2 dD (am 1) (fI 8)) (fI j))) A eN ρ=some (.nx σ):=kx ((m8 h1 j).trans (by rw[xw hj])) e
noncomputable abbrev cE (aa:LD)(c:Int)(zs:LS)(X:LD)(i:Nat)(h:Int)(kind:Str)(ag:LD)(v:OB):DL.Env:=[sL aa,sI c,sL (zs.map .str),lT X,sI i,sI h,sT (.str kind::ag),v]
theorem O1 {fx:FE}{ρ:DL.Env}{l:LD}{b:Bool}(a:Nat)(e:fx ρ=some (.tup l,b)):sr fx eO (dE (fI (a:Int))) ρ=sT (l.take a):=by
 unfold sr;rw[e];show some (D.tup (jf l none (some (a:Int))),false)=_;rw[R1]
theorem Nq {fx:FE}{ρ:DL.Env}{l:LD}{b:Bool}(a:Nat)(e:fx ρ=some (.tup l,b)):sr fx (dE (fI (a:Int))) eO ρ=sT (l.drop a):=by
 unfold sr;rw[e];show some (D.tup (jf l (some (a:Int)) none),false)=_;rw[R3]
theorem Nr {fx M:FE}{ρ:DL.Env}{l:LD}{b:Bool}{v:D}(a:Nat)(hl:l.length<=20)(e:fx ρ=some (.tup l,b))(O:M ρ=some (v,false)):f2 o3 (f2 o3 (sr fx eO (dE (fI (a:Int)))) (fA cn (ao M av))) (sr fx (dE (fI ((a+1:Nat):Int))) eO) ρ=sT (l.take a++[v]++l.drop (a+1)):=by
 refine aP (.tup (l.take a++[v])) (.tup (l.drop (a+1))) (aP (.tup (l.take a)) (.tup [v]) (O1 a e) (a0 [v] (aV O rr) (aW _ V9)) (if_pos (bg ?_))) (Nq (a+1) e) (if_pos (bg ?_))
 .simp;lia
 .simp;lia
section
variable {zs:LS}{d:Nat}{kind:Str}{ag:LD}(k:Dk zs d kind ag)
include k
theorem Dk.sh {v:D}(hv:v=.non\/∃z∈zs,v=.str z)(hk:kind∈[("paper" : Str),"like"]):∃r,(D.str kind::ag).take 5++[v]++(D.str kind::ag).drop 6=.str kind::r/\Dk zs d kind r:=by
 cases k with
 |paper d hd b hb m hm x hx w hw ps h1 h3 hp=>exact⟨_,rr,.paper d hd b hb m hm x hx v hv ps h1 h3 hp⟩
 |like d hd b hb m hm x hx w hw n hn c hc p hp=>exact⟨_,rr,.like d hd b hb m hm x hx v hv n hn c hc p hp⟩
 |copy _ h=>rcases h with rfl|rfl<;>exact absurd hk H9
 |_=>exact absurd hk H9
theorem Dk.st {y:Int×OI}(hy:y∈RA)(hk:kind∈[("paper" : Str),"like"]):∃r,(D.str kind::ag).take 4++[fH y]++(D.str kind::ag).drop 5=.str kind::r/\Dk zs d kind r:=by
 cases k with
 |paper d hd b hb m hm x hx w hw ps h1 h3 hp=>exact⟨_,rr,.paper d hd b hb m hm y hy w hw ps h1 h3 hp⟩
 |like d hd b hb m hm x hx w hw n hn c hc p hp=>exact⟨_,rr,.like d hd b hb m hm y hy w hw n hn c hc p hp⟩
 |copy _ h=>rcases h with rfl|rfl<;>exact absurd hk H9
 |_=>exact absurd hk H9
theorem Dk.by_ {z:Str}(hz:z∈zs)(hk:kind∉[("death" : Str),"lost"]):∃r,(D.str kind::ag).take 2++[.str z]++(D.str kind::ag).drop 3=.str kind::r/\Dk zs d kind r:=by
 cases k with
 |death=>exact absurd H9 hk
 |named d hd o p ho hp=>exact⟨_,rr,.named d hd z p hz hp⟩
 |copy _ h d hd b hb n hn=>exact⟨_,rr,.copy _ h d hd z hz n hn⟩
 |leave d hd b o hb ho m hm x hx f hf=>exact⟨_,rr,.leave d hd z o hz ho m hm x hx f hf⟩
 |paper d hd b hb m hm x hx w hw ps h1 h3 hp=>exact⟨_,rr,.paper d hd z hz m hm x hx w hw ps h1 h3 hp⟩
 |like d hd b hb m hm x hx w hw n hn c hc p hp=>exact⟨_,rr,.like d hd z hz m hm x hx w hw n hn c hc p hp⟩
theorem Dk.pc {z:Str}(hz:z∈zs)(hk:kind = "paper"):∃r,(D.str kind::ag).take 6++[.tup [.str z]]=.str kind::r/\Dk zs d kind r:=by
 cases k with
 |paper d hd b hb m hm x hx w hw ps h1 h3 hp=>exact⟨_,rr,.paper d hd b hb m hm x hx w hw [z] V9 V9 (by simpa using hz)⟩
 |copy _ h=>rcases h with rfl|rfl<;>exact absurd hk H9
 |_=>exact absurd hk H9
end
section
variable {zs:LS}(z7:Nm7 zs) {aa:LD}(g0:GR 50 zs aa) (hl:3<=aa.length) (hl4:aa.length<=4) (c:Int)
include z7 g0 hl hl4
theorem z5:∃L,jE [.lst aa,.int c,.lst (zs.map .str)]=lT L/\GR 60 zs L/\L.length<=4:=by
 have hm:=mod_lt (x:=c / 8) (m:=(aa.length:Int) - 2) N9;obtain⟨i,hi⟩:∃i:Nat,2+c / 8 % ((aa.length:Int) - 2)=i:=⟨(2+c / 8 % ((aa.length:Int) - 2)).toNat,N9⟩;have W:2<=i:=N9
 have N:i<aa.length:=N9
 have hr:=vU N;have g:=g0.mono (C:=60) Z9;obtain⟨h,kind,ag,d,er,h1,h2,dk⟩:=g0.at1 N9 hr;have fl:aI (.tup (.str kind::ag))=true:=by have:=(dk.dw z7 (k:=1)).dd.flat;simpa using this
 have Y:∀ {M:Str}{O:LD}{d':Nat},Dk zs d' M O->∀h':Int,aI (row h' M O)=true:=λk h'=>b7.flat ⟨_,_,_,rr,(k.dw z7 (k:=1)).dd⟩;have P:(D.str kind::ag).length<=20:=by cases dk<;>simp
 have dv:∀ {X:LD}{v:OB},pf (sr (am 3) eO (dE (fI 4))) (cE aa c zs X i h kind ag v)=some (.rt (.lst (X.take 4)) true):=λ{X v}=>ak (by
  unfold sr;show some (D.lst (jf X none (some ((4:Nat):Int))),true)=_;rw[R1])
 obtain⟨z,hz,I⟩:=xj z7 (ρ:=cE aa c zs aa i h kind ag none) (i:=2) (fx:=f2 dD (f2 fg (am 1) (fI 64)) (fI 3)) (j:=c / 64 % 3) rr (im (u0 rr Z9 Z9) Z9) (mod_lt Z9).1 (by have:=mod_lt (x:=c / 64) (m:=3) Z9;lia);have k0:jw 6 0 (cE aa c zs aa i h kind ag none)=sS kind:=by simp[ra]
 have J:bD (f2 LJ (jw 6 0) (fA cn (ao (fS "paper") (ao (fS "like") av)))) (cE aa c zs aa i h kind ag none)=some (decide (kind∈[("paper" : Str),"like"])):=bZ (aP (.str kind) (.tup [.str "paper",.str "like"]) k0 (a0 [.str "paper",.str "like"] rr (aW _ V9)) (dO kind [("paper" : Str),"like"]));have put:∀ {E:FE}{M:Str}{O:LD}{h':Int}{d':Nat},Dk zs d' M O->E (cE aa c zs aa i h kind ag none)=sF (row h' M O)->G0 3 (am 4) E (cE aa c zs aa i h kind ag none)=some (.nx (cE aa c zs (aa.set i (row h' M O)) i h kind ag none)):=λ{E M O h' d'} k e=>xh (i:=3) (n:=i) (ds:=aa) (d:=row h' M O) (b:=false) (b':=false) rr e rr N (Y k h');have K:∀ {f:FE}{M:Str}{O:LD},f (cE aa c zs aa i h kind ag none)=sT (.str M::O)->fA cn (fV 5 (ao f av)) (cE aa c zs aa i h kind ag none)=sF (row h M O):=λ{f M O} e=>a0 [.int h,.tup (.str M::O)] (aV rr (aV e rr)) (aW _ V9);have Q:=λ{E:FE}{v:D}(a:Nat) (e:E (cE aa c zs aa i h kind ag none)=some (v,false))=>Nr (fx:=am 6) (ρ:=cE aa c zs aa i h kind ag none) (b:=false) a P rr e;have U:∀ {M:Str}{O:LD}{d':Nat}(h':Int),Dk zs d' M O->(d':Int)<=h'->h'<=60->GR 60 zs (aa.set i (row h' M O)):=λ{M O d'} h' k a b=>g.set ⟨h',M,O,d',rr,a,b,k⟩ i N9;obtain⟨X,Z,H⟩:∃X,GR 60 zs X/\bd Zs (bd Zt (bd Zu (bd Zv (bd Zw (bd Zx (bd Zy (bd Zz (pf (sr (am 3) eO (dE (fI 4))))))))))) (cE aa c zs aa i h kind ag none)=some (.rt (.lst (X.take 4)) true):=by
  have t:c % 8≠0->∀ {X v},Zs (cE aa c zs X i h kind ag v)=some (.nx (cE aa c zs X i h kind ag v)):=λz=>Ws rr z;have i1:c % 8≠1->∀ {X v},Zt (cE aa c zs X i h kind ag v)=some (.nx (cE aa c zs X i h kind ag v)):=λz=>sk rr z;have i2:c % 8≠2->∀ {X v},Zu (cE aa c zs X i h kind ag v)=some (.nx (cE aa c zs X i h kind ag v)):=λz=>sk rr z;have u:c % 8≠3->∀ {X v},Zv (cE aa c zs X i h kind ag v)=some (.nx (cE aa c zs X i h kind ag v)):=λz=>Ws rr z;have w:c % 8≠4->∀ {X v},Zw (cE aa c zs X i h kind ag v)=some (.nx (cE aa c zs X i h kind ag v)):=λz=>Ws rr z;have A:c % 8≠5->∀ {X v},Zx (cE aa c zs X i h kind ag v)=some (.nx (cE aa c zs X i h kind ag v)):=λz=>Ws rr z;have p:c % 8≠6->∀ {X v},Zy (cE aa c zs X i h kind ag v)=some (.nx (cE aa c zs X i h kind ag v)):=λz=>sk rr z;have s:c % 8≠7->∀ {X v},Zz (cE aa c zs X i h kind ag v)=some (.nx (cE aa c zs X i h kind ag v)):=λz=>sk rr z;have m3:=mod_lt (x:=c / 64) (m:=3) Z9;have cs:c % 8=0\/c % 8=1\/c % 8=2\/c % 8=3\/c % 8=4\/c % 8=5\/c % 8=6\/c % 8=7:=by have:=mod_lt (x:=c) (m:=8) Z9;lia
  rcases cs with e|e|e|e|e|e|e|e
  .obtain⟨v,hv,B⟩:=f9 ([.non,.str z]:LD) id (ρ:=cE aa c zs aa i h kind ag none) (fl:=fA fy (ao (fC .non) (ao (f2 eG (am 2) (f2 dD (f2 fg (am 1) (fI 64)) (fI 3))) av))) (fx:=f2 fg (am 1) (fI 320)) (b:=true) (a:=c / 320) (m:=2) (a0 [.non,.str z] (aV rr (aV I rr)) (cz _ V9)) (u0 rr Z9 Z9) Z9 V9;have hv:v=.non\/∃z∈zs,v=.str z:=by grind
   have B:=Q 5 B;cases hk:decide (kind∈[("paper" : Str),"like"]) with
   |true=>
    obtain⟨r,q,k⟩:=dk.sh hv (ET hk);exact⟨_,U h k h1 N9,pv (Wt rr e (J.trans (by rw[hk])) (put k (K (B.trans (congrArg (λl=>sT l) q))))) (i1 N9) (i2 N9) (u N9) (w N9) (A N9) (p N9) (s N9) dv⟩
   |false=>exact⟨_,g,pv (Wu rr (J.trans (by rw[hk]))) (i1 N9) (i2 N9) (u N9) (w N9) (A N9) (p N9) (s N9) dv⟩
  .refine⟨aa.dropLast,g.pop N9,pv (t N9) (SD rr e ?_) (i2 N9 (v:=none)) (u N9) (w N9) (A N9) (p N9) (s N9) dv⟩;have:aa.isEmpty=false:=by cases aa with|nil=>simp at hl|cons=>rfl
   simp[M3,this]
  .exact⟨_,U (h+1+c / 64 % 3) dk N9 N9,pv (t N9) (i1 N9) (SD rr e (put dk (a0 [.int (h+1+c / 64 % 3),.tup (.str kind::ag)] (aV (aP (.int (h+1)) (.int (c / 64 % 3)) (aP (.int h) (.int 1) rr rr rr) (im (u0 rr Z9 Z9) Z9) rr) rr) (aW _ V9)))) (u N9) (w N9) (A N9) (p N9) (s N9) dv⟩
  .have F:bD (f2 fj (jw 6 0) (fA cn (ao (fS "death") (ao (fS "lost") av)))) (cE aa c zs aa i h kind ag none)=some (!decide (kind∈[("death" : Str),"lost"])):=bZ (aP (.str kind) (.tup [.str "death",.str "lost"]) k0 (a0 [.str "death",.str "lost"] rr (aW _ V9)) (jH kind [("death" : Str),"lost"]));have B:=Q 2 I;cases hk:decide (kind∈[("death" : Str),"lost"]) with
   |false=>
    obtain⟨r,q,k⟩:=dk.by_ hz (of_decide_eq_false hk);exact⟨_,U h k h1 N9,pv (t N9) (i1 N9) (i2 N9) (Wt rr e (F.trans (by rw[hk];rfl)) (put k (K (B.trans (congrArg (λl=>sT l) q))))) (w N9) (A N9) (p N9) (s N9) dv⟩
   |true=>exact⟨_,g,pv (t N9) (i1 N9) (i2 N9) (Wu rr (F.trans (by rw[hk];rfl))) (w N9) (A N9) (p N9) (s N9) dv⟩
  .obtain⟨o,ho,eo⟩:=f9 ([none,some (6+c / 320 % 5)]:List OI) (λo=>uD o) (ρ:=cE aa c zs aa i h kind ag none) (fl:=fA fy (ao (fC .non) (ao (f2 dZ (fI 6) (f2 dD (f2 fg (am 1) (fI 320)) (fI 5))) av))) (fx:=f2 fg (am 1) (fI 1600)) (b:=true) (a:=c / 1600) (m:=2) (a0 [.non,.int (6+c / 320 % 5)] (aV rr (aV (aP (.int 6) (.int (c / 320 % 5)) rr (im (u0 rr Z9 Z9) Z9) rr) rr)) (cz _ V9)) (u0 rr Z9 Z9) Z9 V9;have m5:=mod_lt (x:=c / 64) (m:=5) Z9;have m5':=mod_lt (x:=c / 320) (m:=5) Z9;have hy:(c / 64 % 5,o)∈RA:=by
    have ha:c / 64 % 5∈([0,1,2,3,4]:LI):=Y9
    have hb:6+c / 320 % 5∈([6,7,8,9,10]:LI):=Y9
    refine mY _ (List.mem_flatMap.mpr ⟨_,ha,?_⟩);have ho:=mem_of_mem_take ho;rcases vP ho with rfl|ho
    .exact mX ..
    .rw[uS ho];exact mZ _ (uR ⟨_,hb,rr⟩)
   generalize R:(c / 64 % 5,o)=y at hy;have es:fA cn (ao (f2 dD (f2 fg (am 1) (fI 64)) (fI 5)) (ao (f2 eG (fA fy (ao (fC .non) (ao (f2 dZ (fI 6) (f2 dD (f2 fg (am 1) (fI 320)) (fI 5))) av))) (f2 dD (f2 fg (am 1) (fI 1600)) (fI 2))) av)) (cE aa c zs aa i h kind ag none)=some (fH y,false):=by
    rw[<-R];exact a0 [.int (c / 64 % 5),uD o] (aV (im (u0 rr Z9 Z9) Z9) (aV eo rr)) (aW _ V9)
   have B:=Q 4 es;cases hk:decide (kind∈[("paper" : Str),"like"]) with
   |true=>
    obtain⟨r,q,k⟩:=dk.st hy (ET hk);exact⟨_,U h k h1 N9,pv (t N9) (i1 N9) (i2 N9) (u N9) (Wt rr e (J.trans (by rw[hk])) (put k (K (B.trans (congrArg (λl=>sT l) q))))) (A N9) (p N9) (s N9) dv⟩
   |false=>exact⟨_,g,pv (t N9) (i1 N9) (i2 N9) (u N9) (Wu rr (J.trans (by rw[hk]))) (A N9) (p N9) (s N9) dv⟩
  .have T:bD (f2 je (jw 6 0) (fS "paper")) (cE aa c zs aa i h kind ag none)=some (decide (kind = "paper")):=bZ (aP (.str kind) (.str "paper") k0 rr (Bc _ _));have B:f2 o3 (sr (am 6) eO (dE (fI 6))) (fA cn (ao (fA cn (ao (f2 eG (am 2) (f2 dD (f2 fg (am 1) (fI 64)) (fI 3))) av)) av)) (cE aa c zs aa i h kind ag none)=sT ((D.str kind::ag).take 6++[.tup [.str z]]):=aP (.tup ((D.str kind::ag).take 6)) (.tup [.tup [.str z]]) (O1 (b:=false) 6 rr) (a0 [.tup [.str z]] (aV (a0 [.str z] (aV I rr) (aW _ V9)) rr) (aW _ V9)) (if_pos (bg Y9));cases hk:decide (kind = "paper") with
   |true=>
    obtain⟨r,q,k⟩:=dk.pc hz (ET hk);exact⟨_,U h k h1 N9,pv (t N9) (i1 N9) (i2 N9) (u N9) (w N9) (Wt rr e (T.trans (by rw[hk])) (put k (K (B.trans (congrArg (λl=>sT l) q))))) (p N9) (s N9) dv⟩
   |false=>exact⟨_,g,pv (t N9) (i1 N9) (i2 N9) (u N9) (w N9) (Wu rr (T.trans (by rw[hk]))) (p N9) (s N9) dv⟩
  .have V:=vU (show 1<aa.length by lia);have g1:=g.at1 Z9 V;have gi:=g.at1 N9 hr;have G:aI aa[1]=true:=(g.all z7 _ (getElem_mem _)).1.flat;have S:aI aa[i]=true:=(g.all z7 _ (getElem_mem _)).1.flat;have a1:=aY V;have ai:=aY hr;refine⟨(aa.set 1 aa[i]).set i aa[1],(g.set gi 1 Z9).set g1 i N9,pv (t N9) (i1 N9) (i2 N9) (u N9) (w N9) (A N9) (SD rr e (gA aa[1] ?_ G (bv (xh (i:=3) (n:=1) (ds:=aa) (d:=aa[i]) (b:=false) (b':=false) rr ?_ rr N9 S) (xh (i:=3) (n:=i) (ds:=aa.set 1 aa[i]) (d:=aa[1]) (b:=false) (b':=false) rr rr rr (by rw[length_set];exact N) G)))) (s N9) dv⟩
   .exact aP (.lst aa) (.int 1) rr rr (by simpa using a1)
   .exact aP (.lst aa) (.int i) rr rr (by simp[ai])
  .exact⟨_,g.snoc ⟨c / 64 % 9,"death",[.int (0:Nat),.str z],0,rr,by have:=mod_lt (x:=c / 64) (m:=9) Z9;lia,by have:=mod_lt (x:=c / 64) (m:=9) Z9;lia,.death 0 Z9 z hz⟩,pv (t N9) (i1 N9) (i2 N9) (u N9) (w N9) (A N9) (p N9) (SD rr e (iL (d:=row (c / 64 % 9) "death" [.int (0:Nat),.str z]) (b:=false) rr (a0 [.int (c / 64 % 9),.tup [.str "death",.int 0,.str z]] (aV (im (u0 rr Z9 Z9) Z9) (aV (a0 [.str "death",.int 0,.str z] (aV rr (aV rr (aV I rr))) (aW _ V9)) rr)) (aW _ V9)) rr (bA N9))) dv⟩
 have e3:fA BH (fV 0 av) [sL aa,sI c,sL (zs.map .str),none,none,none,none,none]=lT aa:=a0 [.lst aa] rr rr;have e4:f2 dZ (fI 2) (f2 dD (f2 fg (am 1) (fI 8)) (f2 TX (fA pR (fV 0 av)) (fI 2))) [sL aa,sI c,sL (zs.map .str),lT aa,none,none,none,none]=sI i:=hi ▸ aP (.int 2) (.int (c / 8 % ((aa.length:Int) - 2))) rr (aP (.int (c / 8)) (.int ((aa.length:Int) - 2)) (u0 rr Z9 Z9) (aP (.int aa.length) (.int 2) (a0 [.lst aa] rr pB) rr rr) (Ke _ N9)) rr;have e5:f2 eG (am 0) (am 4) [sL aa,sI c,sL (zs.map .str),lT aa,sI i,none,none,none]=some (.tup [.int h,.tup (.str kind::ag)],false):=aP (.lst aa) (.int i) rr rr (by simp[aY hr,er,row]);exact⟨X.take 4,ah rr (b9 e3 (g.flat z7) (gA (.int i) e4 rr (Rx (b:=false) e5 rr fl H))),Z.take 3,by rw[length_take];lia⟩
end
def PN (w:D):Prop:=w=.non\/∃s,w=.str s
noncomputable def Z4:D->D
 |.tup [_,.tup (_::ag)]=>ag.getD 4 .non
 |_=>.non
def Vn (aa:LD)(n:Nat):D:=Z4 (aa.getD (pend aa 60 n) .non)
theorem PW.wh (p:PW r x w):Z4 r=w:=by
 obtain⟨a,k,d,b,m,M,hk,rfl,_⟩:=p;rfl
section
variable {aa:LD}(g:∀r∈aa,b7 r) (gw:∀r∈aa,xc r) (hl:aa.length<=30) (ae:Int) (hn:((bw (aj aa ae)).map (aM 0)).Nodup) (ho:(cD (aj aa ae)).length<=60)
include g gw hl
theorem Dm {day:Int}{n:Nat}(h:n∈kT aa ae day):PN (Vn aa n)/\ub [.tup aa,.int n]=some (Vn aa n,false):=by
 obtain⟨h1,h2⟩:=vN (vN h).1;obtain⟨q,x,w,e,k,hk,O,hq,M,U,e2⟩:=rP g gw hl _ (kj.mp h1) h2;have a:Vn aa n=w:=by
  unfold Vn;rw[O.pend 60 hk,getD_eq_getElem?_getD,hq];exact M.wh
 rw[a];refine⟨?_,ah rr (ak (a0 _ (aV (a0 _ rr U) rr) M.whom))⟩;obtain⟨_,_,_,_,_,_,_,_,hw⟩:=M;exact hw
end
noncomputable def zN:Int×OI->LI
 | (a,none)=>[a]
 | (a,some b)=>[a,b]
noncomputable def Nt:LS:=[("leave" : Str),"paper","like"]
def rX (r:D):LI:=a5 r::(if aJ r=true then []else aO r::(if kindOf r∈Nt then zN (dh r)else []))
theorem RC {r:D}(h:aJ r=false):aO r∈rX r:=by simp[rX,h]
theorem Vo {r:D}(h:kindOf r∈Nt){x:Int}(hx:x∈zN (dh r)):x∈rX r:=by
 have:aJ r=false:=ES λe=>by rw[e]at h;revert h;decide +kernel
 simp[rX,h,this,hx]
theorem EQ {d1 d2:Int}(x:Int×OI)(h:∀y∈zN x,(y<=d1↔y<=d2)):m4 d1 x=m4 d2 x:=by
 obtain⟨a,o⟩:=x;have ha:=h a (by cases o<;>simp[zN])
 unfold m4;cases o with
 |none=>simp[ha]
 |some b=>
  grind[zN]
def Sm (aa:LD)(d1 d2:Int):Prop:=∀r∈aa,∀x∈rX r,(x<=d1↔x<=d2)
theorem Ks {aa:LD}{k d1 d2:Int}(hd:Sm aa d1 d2):JU (aj aa k) d1=JU (aj aa k) d2:=by
 have hr:∀x∈aj _ k,aJ _=false->decide _=decide _:=λx hx h=>decide_eq_decide.mpr (hd _ (vL (aT hx)) _ (RC h));have hc:∀x:D×Nat,∀y∈aj _ k,EG _ x.2 x.1 d1 y.1=EG (aj aa k) _ x.1 d2 _:=λx y hy=>by
  unfold EG;by_cases e:kindOf y.1 = "call"
  .rw[hr y hy (ES λz=>by rw[e]at z;revert z;decide +kernel)]
  simp_all
 unfold JU;rw[filter_congr λx hx=>?_];have hm:=(vN ((aC _ _).mem_iff.mp hx)).1;by_cases hb:kindOf x.1∈bp
 .have e:EH (aj aa k) d1 x=EH (aj aa k) d2 x:=by
   unfold EH;rw[hr x hm (xa hb),filter_congr λy hy=>hc x y hy]
  rw[e]
 simp_all
def Nu (aa:LD)(ae:Int)(n:Nat):D:=match jZ [.tup aa,.int ae,.int n] with
 |some (v,_)=>v
 |none=>.non
def rY (aa:LD)(ae day:Int):LD:=(kT aa ae day).map λ(n:Nat)=>.tup [.int (n:Int),Vn aa n,Nu aa ae n]
section
variable {aa:LD}(g:∀r∈aa,b7 r/\xc r/\Rq r) (hl:aa.length<=30)
include g hl
theorem xl {k1 k2:Int}(hk:∀r∈aa,decide (a5 r<=k2)=decide (a5 r<=k1))(n:Nat):(∃b,jZ [.tup aa,.int k1,.int n]=some (Nu aa k1 n,b))/\Gv (Nu aa k1 n)/\Nu aa k2 n=Nu aa k1 n:=by
 obtain⟨v,b,O,M,e2⟩:=Kb (λr hr=>(g r hr).2.2) (λr hr=>(g r hr).1) (λn r h=>hk r (vL h)) hl n;have h1:Nu aa k1 n=v:=by unfold Nu;rw[M]
 have h2:Nu aa k2 n=v:=by unfold Nu;rw[e2]
 rw[h1,h2];exact⟨⟨b,M⟩,O,rr⟩
theorem fJ (ae day:Int):aH 40 (.lst (rY aa ae day))=true:=by
 show(rY _ _ _).all _=true;rw[all_eq_true];intro d hd;obtain⟨n,hn,rfl⟩:=vO hd;have h1:=(Dm (λr hr=>(g r hr).1) (λr hr=>(g r hr).2.1) hl _ hn).1;have h2:=(xl g hl (λ_ _=>rr) n (k1:=ae) ).2.1;have h2:=gk 20 38 _ Z9 h2;rcases h1 with h|⟨s,h⟩<;>rw[h]<;>simp[h2]
theorem ER {ae:Int}(hn:((bw (aj aa ae)).map (aM 0)).Nodup)(ho:(cD (aj aa ae)).length<=60)(day:Int):gh [.tup aa,.int ae,.int day]=lT (rY aa ae day):=by
 have hk:∀r∈aa,b7 r:=λr hr=>(g r hr).1;have hw:∀r∈aa,xc r:=λr hr=>(g r hr).2.1;have e:=AY hk hw hl ae hn ho day;have O:(kT aa ae day).length<=60:=by
  unfold kT;refine vR (vM _ _) (vR (vM _ _) ?_);unfold mD;rw[(aC _ _).length_eq];exact ki hl ae day
 refine ah rr (ak (f8 (nT:=1) (cap:=[0,1]) (tg:=dS 0) (kT aa ae day) (λ(n:Nat)=>.int (n:Int)) _ (by show(fA nF _ _).bind _=_;rw[a0 [.tup aa,.int ae,.int day] rr e];rfl) N9 λn M=>?_));obtain⟨b,U⟩:=(xl g hl (λ_ _=>rr) n (k1:=ae) (k2:=ae)).1;exact⟨[sI n,sT aa,sI ae],rr,false,a0 _ (aV rr (aV (a0 [.tup aa,.int n] rr (Dm hk hw hl ae M).2) (a9 (a0 [.tup aa,.int ae,.int n] rr U) rr))) (aW _ V9)⟩
theorem z6 {k1 k2 d1 d2:Int}(hk:∀r∈aa,decide (a5 r<=k2)=decide (a5 r<=k1))(hd:Sm aa d1 d2):rY aa k2 d2=rY aa k1 d1:=by
 have O:aj _ k2=aj _ k1:=filter_congr λx hx=>hk _ (List.fst_mem_of_mem_zipIdx hx);have e2:eE aa k2 d2=eE aa k1 d1:=by rw[nW,nW,O,Ks hd]
 have U:kT aa k2 d2=kT aa k1 d1:=by
  unfold kT;rw[e2];refine filter_congr λn hn=>?_;obtain⟨h1,h2⟩:=vN hn;obtain⟨q,x,w,e,k,_,_,hq,M,_,hx⟩:=rP (λr hr=>(g r hr).1) (λr hr=>(g r hr).2.1) hl k1 (kj.mp h1) h2;refine(EQ _ λy hy=>hd q (vL hq) y (Vo ?_ ?_)).symm
  .obtain⟨_,a,_,_,_,_,b,rfl,_⟩:=M;show a∈Nt;simp_all[Nt]
  .rw[M.st,<-hx];exact hy
 unfold rY;rw[U];exact List.map_congr_left λn _=>by rw[(xl g hl hk n).2.2]
theorem z8 {k:Int}(h:∀r∈aa,¬a5 r<=k)(d:Int):rY aa k d=[]:=by
 have M:aj aa k=[]:=List.filter_eq_nil_iff.mpr λx hx=>by simp[h _ (List.fst_mem_of_mem_zipIdx hx)]
 unfold rY kT;rw[nW,M];rfl
end
noncomputable abbrev vI (l:LI):LD:=l.map .int
noncomputable def dq (p:Str):Nat:=if decide (p=("day" : Str)) || decide (p=("since" : Str))then 1 else if decide (p=("stretch" : Str))then 2 else 0
inductive EX:List (Str×D)->List Int->Prop
 |nil:EX [] []
 |no (p:Str) (v:D) (L:List (Str×D)) (a:List Int) (hv:aI v=true) (h:EX L a) (hp:dq p=0:=by decide +kernel):EX ((p,v)::L) a
 |day (n:Int) (L:List (Str×D)) (a:List Int) (h:EX L a):EX (("day",.int n)::L) (n::a)
 |st (x:Int×Option Int) (L:List (Str×D)) (a:List Int) (h:EX L a):EX (("stretch",fH x)::L) (zN x++a)
theorem pD {f:FE}{ρ:DL.Env}{x:Int×OI}{b:Bool}(e:f ρ=some (fH x,b)):fw (cb f) 1 [] (dS 0) (bD (f2 gI (am 0) (fC .non))) (am 0) ρ=lT (vI (zN x)):=by
 have:=dH (fi:=cb f) (nT:=1) (cap:=[]) (tg:=dS 0) (c:=bD (f2 _ (am 0) (fC _))) (fe:=am 0) [.int _,uD _] id _ id (by show(f ρ).bind _=_;rw[e];rfl) V9 λd hd=>⟨[some _],rr,bZ (aP d _ rr rr (oS d (by
  rcases vP hd with rfl|hd
  .rfl
  .rw[uS hd];cases x.2<;>rfl))),λ_=>⟨false,rr⟩⟩
 rw[this];obtain⟨a,o⟩:=x;cases o<;>rfl
theorem mF {tg:FG}{g:FS}{d:D}{ds:LD}{ρ M O:DL.Env}(t:tg d ρ=some M)(e:g M=some (.nx O)):cB tg g (d::ds) ρ=cB tg g ds O:=by
 rw[mR,t,vJ,e]
theorem jL (x:Int×OI):(zN x).length<=2:=by obtain⟨a,o⟩:=x;cases o<;>simp[zN]
theorem Kt {ρ:DL.Env}{i:Nat}{f:FE}{a b:LI}(e:ρ[i]? = some (lT (vI a)))(M:f ρ=lT (vI b))(hl:a.length+b.length<=1000):Aq i f ρ=some (.nx (ρ.set i (lT (vI (a++b))))):=by
 simp only[Aq,e,M,vJ];rw[if_pos ⟨trivial,eV _,bg (by simp ;lia)⟩];simp
abbrev dI (r:D)(a:LI)(u v:OB):DL.Env:=[some (r,false),lT (vI a),u,v]
theorem mG {r:D}:∀ {L:List (Str×D)}{a:LI},EX L a->∀(acc:LI)(u v:OB),acc.length+2*L.length<=500->∃M O,cB (DM [2,3]) iS (L.map λx=>.tup [.str x.1,x.2]) (dI r acc u v)=some (.nx (dI r (acc++a) M O))
 |_,_,.nil,acc,u,v,_=>⟨u,v,by rw[uP];exact jo ..⟩
 |_,_,.no p w L a hv h hp,acc,u,v,hl=>by
  rw[vC]at hl;obtain⟨M,O,e⟩:=mG h acc (sS p) (some (w,false)) N9;have h1:(decide (p=("day" : Str)) || decide (p=("since" : Str)))=false:=by
   grind[dq]
  have h2:decide (p=("stretch" : Str))=false:=by
   unfold dq at hp;rw[h1]at hp;cases hx:decide (p=("stretch" : Str)) with
   |false=>rfl
   |true=>rw[hx]at hp;cases hp
  have U:iS (dI r acc (sS p) (some (w,false)))=some _:=gL ((bx (bZ (aP (.str p) (.str "day") rr rr (Bc _ _))) λ_=>bZ (aP (.str p) (.str "since") rr rr (Bc _ _))).trans (by rw[h1])) (gL (bZ (aP (.str p) (.str "stretch") rr rr ((Bc _ _).trans (by rw[h2])))) rr);refine⟨M,O,?_⟩;rw[uX,mF (by simp[hv]) U];exact e
 |_,_,.day n L a h,acc,u,v,hl=>by
  rw[vC]at hl;obtain⟨M,O,e⟩:=mG h (acc++[n]) (sS "day") (sI n) (by grind);have U:iS (dI r acc (sS "day") (sI n))=some (.nx (dI r (acc++[n]) (sS "day") (sI n))):=kx ((bx (bZ (aP (.str "day") (.str "day") rr rr (Bc _ _))) λ_=>bZ (aP (.str "day") (.str "since") rr rr (Bc _ _))).trans H9) ((iL (ds:=vI acc) (d:=.int n) (b:=false) rr rr rr (bA (by simp[vI];lia))).trans (by simp[vI]));refine⟨M,O,?_⟩;rw[uX,mF rr U];rw[show acc++n::a=acc++[n]++a by simp];exact e
 |_,_,.st x L a h,acc,u,v,hl=>by
  rw[vC]at hl;have hx:=jL x;obtain⟨M,O,e⟩:=mG h (acc++zN x) (sS "stretch") (some (fH x,false)) (by rw[uY];lia);have U:iS (dI r acc (sS "stretch") (some (fH x,false)))=some _:=gL ((bx (bZ (aP (.str "stretch") (.str "day") rr rr (Bc _ _))) λ_=>bZ (aP (.str "stretch") (.str "since") rr rr (Bc _ _))).trans H9) (kx (bZ (aP (.str "stretch") (.str "stretch") rr rr ((Bc _ _).trans (by rw[xw rr])))) (Kt rr (pD (b:=false) rr) N9));refine⟨M,O,?_⟩;rw[uX,mF (by simp[iz]) U];rw[<-append_assoc];exact e
abbrev wD (v0:OB)(acc:LI)(h:Int)(kind:Str)(ag:LD):DL.Env:=[v0,lT (vI acc),sI h,sT (.str kind::ag)]
structure Dy (h:Int)(kind:Str)(ag:List D)(a:List Int):Prop where
 dp:∃parts:List Str,sA bI (.str kind)=some (.tup (parts.map .str),false)/\EX (parts.zip ag) a/\parts.length<=9
 wd:∀(v0:OB)(acc:List Int),acc.length<=400->nI (wD v0 acc h kind ag)=some (.nx (wD v0 (acc++h::a) h kind ag))
 sub:∀x∈rX (row h kind ag),x∈h::a
 len:a.length<=3
theorem Nv {h:Int}{kind:Str}{ag:LD}{a:LI}(d:Dy h kind ag a):uc [row h kind ag]=lT (vI (h::a)):=by
 obtain⟨parts,e,dp,hl⟩:=d.dp;obtain⟨u,v,er⟩:=mG dp [h] _ _ Y9;exact ah rr (b9 (a0 _ (aV (by simp[row,ra]) rr) (cz _ V9)) rr (bv (cG (by
  have:fA _ (fV 0 av) (fN [some (row h _ ag,false),lT (vI [h]),none,none])=_:=a0 _ rr (zw e);show(fA _ _ (fN [some _,lT (vI [h]),none,none])).bind _=_;rw[this];rfl) er) (gD rr)))
theorem Bi {ρ:DL.Env}{f:FE}{acc b:LI}(e:ρ[1]? = some (lT (vI acc)))(M:f ρ=lT (vI b))(hl:acc.length+b.length<=1000):cP 1 (f2 dZ (am 1) f) ρ=some (.nx (ρ.set 1 (lT (vI (acc++b))))):=by
 have h:f2 dZ (am 1) f ρ=lT (vI (acc++b)):=eW (x:=.lst (vI acc)) (b1:=false) (by simp[e]) M (by
  show(if _ then _ else _)=_;rw[if_pos (bg (by simp ;lia))];simp )
 have:=b9 (i:=1) (h:=eN) h (eV _) rr;unfold bd at this;revert this;cases O:cP 1 _ ρ with
 |none=>intro z;cases z
 |some r=>cases r<;>intro z<;>first|exact z|cases z
section
variable {h:Int}{kind:Str}{ag:LD}{acc:LI}{v0:OB}(ha:acc.length<=900)
include ha
theorem jM {A:FS}{res:Option Res}(e:A (wD v0 (acc++[h]) h kind ag)=res):bd (vh 1 (am 2)) A (wD v0 acc h kind ag)=res:=
 Oo rr rr rr (bA (by simp ;lia)) (by
  grind)
theorem xm {A:FS}{d:Int}{r:LD}{res:Option Res}(hr:ag=.int d::r)(hk:decide (kind = "root")=false)(e:A (wD v0 (acc++[d]) h kind ag)=res):bd (p5 (bD (f2 xT (jw 3 0) (fS "root"))) (vh 1 (jw 3 1)) eN) A (wD v0 acc h kind ag)=res:=by
 refine bv (kx ((rL (a:=kind) (bb:=false) (by simp[ra])).trans (by rw[hk];rfl)) (iL (d:=.int d) (b:=false) rr (by rw[hr];simp[at1]) rr (bA (by simp ;lia)))) ?_;grind
theorem Dn {A:FS}{res:Option Res}(hk:decide (kind = "leave")=false)(e:A (wD v0 acc h kind ag)=res):bd (p5 (bD (f2 je (jw 3 0) (fS "leave"))) (cP 1 (f2 dZ (am 1) (fw (cb (jw 3 5)) 1 [] (dS 0) (bD (f2 gI (am 0) (fC .non))) (am 0)))) eN) A (wD v0 acc h kind ag)=res:=aw (bB (bb:=false) (by simp[ra]) hk) e
theorem Ku (hk:decide (kind∈[("paper" : Str),"like"])=false):p5 (bD (f2 LJ (jw 3 0) (fA cn (ao (fS "paper") (ao (fS "like") av))))) (cP 1 (f2 dZ (am 1) (fw (cb (jw 3 4)) 1 [] (dS 0) (bD (f2 gI (am 0) (fC .non))) (am 0)))) eN (wD v0 acc h kind ag)=some (.nx (wD v0 acc h kind ag)):=
 gL (bZ (aP _ _ (by simp[ra]) (a0 _ rr (aW _ V9)) ((dO kind [("paper" : Str),"like"]).trans (by rw[hk])))) rr
end
theorem at5 {a b c d e f:D}{l:LD}:l5 (a::b::c::d::e::f::l) 5=some f:=by have:=gK (xs:=a::b::c::d::e::f::l) (j:=5) V9;simpa using this
theorem Vp {a b c d e:D}{l:LD}:l5 (a::b::c::d::e::l) 4=some e:=by have:=gK (xs:=a::b::c::d::e::l) (j:=4) V9;simpa using this
theorem mH {r:D}{a:LI}(hd:aJ r=false->aO r∈a)(hs:kindOf r∈Nt->∀x∈zN (dh r),x∈a):∀x∈rX r,x∈a5 r::a:=by
 grind[rX]
theorem Vq {r:D}{a:LI}(h:decide (kindOf r∈Nt)=false):kindOf r∈Nt->∀x∈zN (dh r),x∈a:=by simp_all
theorem rZ {h:Int}{kind:Str}{d:Int}{r:LD}(parts:LS)(hp:sA bI (.str kind)=some (.tup (parts.map .str),false))(hl:parts.length<=9)(dp:EX (parts.zip (.int d::r)) [d])(h1:decide (kind = "root")=false)(h2:decide (kind = "leave")=false)(h3:decide (kind∈[("paper" : Str),"like"])=false)(h4:decide (kind∈Nt)=false):Dy h kind (.int d::r) [d]:=
 ⟨⟨parts,hp,dp,hl⟩,λv0 acc ha=>jM N9 (xm Y9 rr h1 (Dn Y9 h2 ((Ku Y9 h3).trans V9))),mH (λ_=>by show d∈[d];simp) (Vq h4),V9⟩
theorem Rg.dy {B:Int}{zs:LS}{r:D}(g:Rg B zs r):∃h kind ag a,r=row h kind ag/\Dy h kind ag a:=by
 obtain⟨h,kind,ag,d,rfl,_,_,k⟩:=g;cases k with
 |death d hd p hp=>exact⟨_,_,_,_,rr,rZ ["day","person"] bX Z9 (.day _ _ _ (.no _ _ _ _ rr .nil)) H9 H9 H9 H9⟩
 |named d hd o p ho hp=>exact⟨_,_,_,_,rr,rZ ["day","office","person"] bX Z9 (.day _ _ _ (.no _ _ _ _ rr (.no _ _ _ _ rr .nil))) H9 H9 H9 H9⟩
 |copy i hk d hd b hb n hn=>rcases hk with rfl|rfl<;>exact⟨_,_,_,_,rr,rZ ["day","by","of"] bX Z9 (.day _ _ _ (.no _ _ _ _ rr (.no _ _ _ _ rr .nil))) H9 H9 H9 H9⟩
 |leave d hd b o hb ho m hm x hx f hf=>
  refine⟨h,_,_,d::zN x,rr,⟨["day","by","person","matters","stretch","further"],bX,?_,Z9⟩,λv0 acc ha=>jM N9 (xm (d:=d) Y9 rr H9 (bv (kx (bB (a:="leave") (bb:=false) (by simp[ra]) (xw rr)) (Bi rr (pD (x:=x) (b:=false) (by simp[at5])) (by have:=jL x;simp;lia))) ((Ku (acc:=acc++[h]++[(d:Int)]++zN x) (by have:=jL x;simp;lia) H9).trans V9))),mH (λ_=>mX ..) λ_ y hy=>mZ _ ?_,by have:=jL x;simp;lia⟩
  .have:=EX.day (d:Int) _ _ (.no "by" (.str b) _ _ rr (.no "person" (.str o) _ _ rr (.no "matters" (.int m) _ _ rr (.st x _ _ (.no "further" (.int f) [] [] rr .nil)))));rw[uP]at this;exact this
  .have:dh (row h "leave" [.int (d:Int),.str b,.str o,.int (m:Int),fH x,.int (f:Int)])=x:=by
    unfold dh;rw[iA,if_pos rr];exact mw rr
   simp_all
 |paper d hd b hb m hm x hx w hw ps U h3 hp=>
  have M:PW (row h "paper" [.int (d:Int),.str b,.int (m:Int),fH x,w,.tup (ps.map .str)]) x w:=⟨_,_,_,_,m,_,.inl rr,rr,hw.imp id λ⟨z,_,e⟩=>⟨z,e⟩⟩;have O:aI w=true:=by rcases hw with rfl|⟨z,_,rfl⟩<;>rfl
  have fp:aI (.tup (ps.map D.str))=true:=by rw[tq,bo]
  refine⟨h,_,_,d::zN x,rr,⟨["day","by","matters","stretch","whom","pieces"],bX,?_,Z9⟩,λv0 acc ha=>jM N9 (xm (d:=d) Y9 rr H9 (Dn Y9 H9 ((kx (bZ (aP (.str "paper") (.tup [.str "paper",.str "like"]) (by simp[ra]) (a0 [.str "paper",.str "like"] rr (aW _ V9)) ((dO "paper" [("paper" : Str),"like"]).trans I9))) (Bi rr (pD (x:=x) (b:=false) (by simp[Vp])) (by have:=jL x;simp;lia))).trans V9))),mH (λ_=>mX ..) λ_ y hy=>mZ _ (by rw[M.st]at hy;exact hy),by have:=jL x;simp;lia⟩;have:=EX.day (d:Int) _ _ (.no "by" (.str b) _ _ rr (.no "matters" (.int m) _ _ rr (.st x _ _ (.no "whom" w _ _ O (.no "pieces" (.tup (ps.map .str)) [] [] fp .nil)))));rw[uP]at this;exact this
 |like d hd b hb m hm x hx w hw n hn c hc p hp=>
  have M:PW (row h "like" [.int (d:Int),.str b,.int (m:Int),fH x,w,.int (n:Int),.tup [.tup [.int (c:Int),.str p]]]) x w:=⟨_,_,_,_,m,_,.inr rr,rr,hw.imp id λ⟨z,_,e⟩=>⟨z,e⟩⟩;have O:aI w=true:=by rcases hw with rfl|⟨z,_,rfl⟩<;>rfl
  refine⟨h,_,_,d::zN x,rr,⟨["day","by","matters","stretch","whom","of","changes"],bX,?_,Z9⟩,λv0 acc ha=>jM N9 (xm (d:=d) Y9 rr H9 (Dn Y9 H9 ((kx (bZ (aP (.str "like") (.tup [.str "paper",.str "like"]) (by simp[ra]) (a0 [.str "paper",.str "like"] rr (aW _ V9)) ((dO "like" [("paper" : Str),"like"]).trans I9))) (Bi rr (pD (x:=x) (b:=false) (by simp[Vp])) (by have:=jL x;simp;lia))).trans V9))),mH (λ_=>mX ..) λ_ y hy=>mZ _ (by rw[M.st]at hy;exact hy),by have:=jL x;simp;lia⟩;have:=EX.day (d:Int) _ _ (.no "by" (.str b) _ _ rr (.no "matters" (.int m) _ _ rr (.st x _ _ (.no "whom" w _ _ O (.no "of" (.int n) _ _ rr (.no "changes" (.tup [.tup [.int (c:Int),.str p]]) [] [] rr .nil))))));rw[uP]at this;exact this
theorem Rt.dy {zs:LS}{r:D}(g:Rt zs r):∃h kind ag a,r=row h kind ag/\Dy h kind ag a:=by
 obtain⟨rl,_,rfl⟩:=g;refine⟨_,_,_,[],rr,⟨["office","matters","further","rule"],bX,.no _ _ _ _ rr (.no _ _ _ _ rr (.no _ _ _ _ rr (.no _ _ _ _ rr .nil))),Z9⟩,λv0 acc ha=>jM N9 (aw ((rL (a:="root") (bb:=false) (by simp[ra])).trans I9) (Dn Y9 H9 (Ku Y9 H9))),mH (λz=>?_) (Vq (show decide (("root" : Str)∈Nt)=false by decide +kernel)),V9⟩;revert z;rw[show aJ _=true from xw rr];simp
def ss (l:LI):LI:=hG (dU l)
theorem sd {x:Int}:∀(l M:LI),x∈l.foldl iJ M↔x∈M\/x∈l
 |[],M=>by simp
 |y::l,M=>by rw[foldl_cons,sd l,qc];simp<;>lia
theorem xn:∀(l M:LI),M.Nodup->(l.foldl iJ M).Nodup
 |[],_,h=>h
 |y::l,_,h=>xn l _ (pZ h y)
theorem se {x:Int}{l:LI}:x∈ss l↔x∈l:=by
 unfold ss hG;rw[(aC _ _).mem_iff];exact(sd l []).trans V9
theorem Bj {l m:LI}(h:∀x,x∈l↔x∈m):ss l=ss m:=by
 have p:=(List.perm_ext_iff_of_nodup (xn l [] nodup_nil) (xn m [] nodup_nil)).mpr λx=>by
  grind[sd]
 exact ng _ _ _ (λx _ y _ e=>by injection e) ((aC _ _).trans (p.trans (aC _ _).symm)) (dn _ _) (dn _ _)
theorem Kv (l:LI):(ss l).length<=l.length:=by unfold ss hG;rw[(aC _ _).length_eq];exact lN l
theorem mI {f:FE}{ρ:DL.Env}{l:LI}{b:Bool}(e:f ρ=some (.lst (vI l),b))(h:l.length<64):f1 dG f ρ=lT (vI (ss l)):=zm e (by
 show(fU _).bind _=_;rw[hW,vJ,if_pos h];rfl)
def HD (aa:LD):Prop:=∀r∈aa,∃h kind ag a,r=row h kind ag/\Dy h kind ag a
theorem GR.hd {B:Int}{zs:LS}{aa:LD}(g:GR B zs aa):HD aa:=by
 obtain⟨M,ag,rfl,h0,h1⟩:=g;intro r hr;rcases vP hr with rfl|hr
 .exact h0.dy
 .exact(h1 r hr).dy
theorem z9 {tg:FG}{g:FS}{d:D}{ds:LD}{ρ M O:DL.Env}{r:Option Res}(t:tg d ρ=some M)(e:g M=some (.nx O))(k:cB tg g ds O=r):cB tg g (d::ds) ρ=r:=(mF t e).trans k
theorem si:∀(aa:LD),HD aa->∃A:LI,(∀r∈aa,∀x∈rX r,x∈A)/\A.length<=4*aa.length/\(∀(acc:LI)(v0 M:OB),acc.length+4*aa.length<=300->∃O,cB (dS 2) qY aa [v0,lT (vI acc),M]=some (.nx [v0,lT (vI (acc++A)),O]))/\∀(acc:LI)(v0 M U:OB),acc.length+4*aa.length<=300->∃O b,cB (DM [2,3]) nI aa [v0,lT (vI acc),M,U]=some (.nx [v0,lT (vI (acc++A)),O,b])
 |[],_=>⟨[],V9,V9,λacc v0 M _=>⟨M,by rw[uP];exact jo ..⟩,λacc v0 M U _=>⟨M,U,by rw[uP];exact jo ..⟩⟩
 |r::aa,hd=>by
  obtain⟨h,kind,ag,a,er,dy⟩:=hd r (mX ..);obtain⟨A,h1,h2,h3,h4⟩:=si aa λq hq=>hd q (mZ _ hq);have hl:=dy.len;refine⟨(h::a)++A,λq hq x hx=>?_,Y9,λacc v0 M ha=>?_,λacc v0 M U ha=>?_⟩
  .rcases vP hq with rfl|hq
   .exact mem_append_left _ (dy.sub x (er ▸ hx))
   .exact mY _ (h1 q hq x hx)
  .rw[vC]at ha;obtain⟨O,e⟩:=h3 (acc++h::a) v0 _ Y9;refine⟨O,?_⟩;rw[<-append_assoc];exact z9 rr (Kt rr (a0 [r] rr (er ▸ Nv dy)) Y9) e
  .rw[vC]at ha;obtain⟨O,b,e⟩:=h4 (acc++h::a) v0 _ _ Y9;refine⟨O,b,?_⟩;rw[<-append_assoc];refine z9 ?_ (dy.wd v0 acc N9) e;simp_all[row]
theorem Kw {aa:LD}{A:LI}(hl:aa.length<=5)(U:A.length<=4*aa.length)(h:∀(acc:LI)(v0 O:OB),acc.length+4*aa.length<=300->∃M,cB (dS 2) qY aa [v0,lT (vI acc),O]=some (.nx [v0,lT (vI (acc++A)),M])):eC [.tup aa]=lT (vI (ss (0::A))):=by
 obtain⟨M,e⟩:=h [0] _ _ Y9;exact ah rr (b9 (a0 _ rr (cz _ V9)) rr (bv (cG rr e) (ak (mI rr Y9))))
theorem zF {aa:LD}{A:LI}(hl:aa.length<=5)(h:∀(acc:LI)(v0 U a:OB),acc.length+4*aa.length<=300->∃M O,cB (DM [2,3]) nI aa [v0,lT (vI acc),U,a]=some (.nx [v0,lT (vI (acc++A)),M,O])):iu [.lst aa]=lT (vI (0::A)):=by
 obtain⟨M,O,e⟩:=h [0] _ _ _ Y9;exact ah rr (b9 (a0 _ rr (cz _ V9)) rr (bv (cG rr e) (gD rr)))
def Wv (I:DL.Env->Prop)(r:Option Res):Option D->Prop
 |none=>∃ρ,r=some (.nx ρ)/\I ρ
 |some d=>r=some (.rt d false)
theorem zG {j:Nat}{g:FS}(res:Int->Option D)(I:DL.Env->Prop)(step:∀x ρ,I ρ->Wv I (g (ρ.set j (sI x))) (res x)):∀(l:LI)(ρ:DL.Env),I ρ->Wv I (cB (dS j) g (vI l) ρ) (l.findSome? res)
 |[],ρ,h=>⟨ρ,jo ..,h⟩
 |x::l,ρ,h=>by
  have s:=step x ρ h;rw[List.findSome?_cons];cases hr:res x with
  |none=>
   rw[hr]at s;obtain⟨ρ',e,h'⟩:=s;have:=zG _ I step l _ h';rw[<-mF rr e]at this;exact this
  |some d=>
   rw[hr]at s;show cB _ _ _ _=_;show(match g _ with|some (.nx _)=>_|some (.ct _)=>_|some (.bk _)=>_|r=>r)=_;rw[show g _=some _ from s]
theorem xo {fi:DL.Env->Option LD}{tg:FG}{g:FS}{ρ:DL.Env}{ds:LD}{r:Option Res}(e:fi (fN ρ)=some ds)(k:cB tg g ds ρ=r):vi fi tg g ρ=r:=by unfold vi;rw[e];exact k
def KH (one other:LD)(k d:Int):Bool:=cJ (.lst (rY one k d)) (.lst (rY other k d))
def mJ (one other:LD)(k d:Int):Option D:=if KH one other k d=true then none else some (.tup [.int k,.int d])
def zH (one other:LD)(K Z:LI):Option D:=K.findSome? λk=>Z.findSome? (mJ one other k)
structure Bk (aa:List D):Prop where
 g:∀r∈aa,b7 r/\xc r/\Rq r
 l:aa.length<=5
 n:∀ae,((bw (aj aa ae)).map (aM 0)).Nodup
 h:HD aa
theorem Bk.jd {aa:LD}(b:Bk aa)(k d:Int):gh [.tup aa,.int k,.int d]=lT (rY aa k d):=ER b.g (by have:=b.l;lia) (b.n k) (by
 unfold cD;rw[(aC _ _).length_eq];exact vR (vM _ _) (vR (bT _ k) (by have:=b.l;lia))) d
section
variable {one other:LD}(b1:Bk one) (b2:Bk other)
include b1 b2
theorem O2 {ρ:DL.Env}{fa M:FA}{k d:Int}(O:fa ρ=some [.tup one,.int k,.int d])(U:M ρ=some [.tup other,.int k,.int d]):bD (f2 xT (fA gh fa) (fA gh M)) ρ=some (!KH one other k d):=bW (eW (a0 _ O (b1.jd k d)) (a0 _ U (b2.jd k d)) (if_pos ⟨fJ b1.g (by have:=b1.l;lia) k d,fJ b2.g (by have:=b2.l;lia) k d⟩))
theorem Dp {ρ:DL.Env}{fa M:FA}{O:FA}{k d:Int}{I:DL.Env->Prop}(U:fa ρ=some [.tup one,.int k,.int d])(a:M ρ=some [.tup other,.int k,.int d])(er:O ρ=some [.int k,.int d])(b:I ρ):Wv I (p5 (bD (f2 xT (fA gh fa) (fA gh M))) (pf (fA cn O)) eN ρ) (mJ one other k d):=by
 have t:=O2 b1 b2 U a;unfold mJ;cases h:KH _ _ k d with
 |true=>rw[h]at t;exact⟨ρ,gL t rr,b⟩
 |false=>rw[h]at t;exact kx t (ak (a0 _ er (aW _ V9)))
theorem RD (K Z:LI):pC [.tup one,.tup other,.lst (vI K),.lst (vI Z)]=sF ((zH one other K Z).getD .non):=by
 have h:=zG (j:=4) (g:=Jk) (λk=>Z.findSome? _) (λρ=>∃U M:OB,ρ=[sT one,sF _,sF _,sF _,U,M]) (λk ρ O=>by
  obtain⟨U,M,rfl⟩:=O;have h2:=zG (j:=5) (g:=Jj) _ (λρ=>∃M:OB,ρ=[sT one,sF _,sL (vI K),sF _,sI k,M]) (λd ρ O=>by
   obtain⟨M,rfl⟩:=O;exact Dp b1 b2 rr rr rr ⟨_,rr⟩) Z [sT one,sF _,sF _,sL (vI Z),sI k,M] ⟨_,rr⟩
  cases hz:Z.findSome? _ with
  |none=>
   rw[hz]at h2;obtain⟨ρ',e,M,rfl⟩:=h2;exact⟨_,cG rr e,_,_,rr⟩
  |some d=>
   rw[hz]at h2;exact xo rr h2) K [sT one,sF _,sF _,sF _,none,none] ⟨_,_,rr⟩
 unfold zH;cases hz:K.findSome? _ with
 |none=>
  rw[hz]at h;obtain⟨ρ',e,U,M,rfl⟩:=h;exact ah rr (bv (cG (ds:=vI K) rr e) (ak rr))
 |some d=>
  rw[hz]at h;exact ah rr (HU (xo (ds:=vI K) rr h))
noncomputable def kn (aa:LD):LI:=aa.map a5
theorem ko {A B:LI}(i:A.length<=20)(m:B.length<=20)(mA:eC [.tup one]=lT (vI (ss (0::A))))(c:eC [.tup other]=lT (vI (ss (0::B)))):dN [.tup one,.tup other]=sF ((zH one other (ss (kn one++kn other)) (ss (ss (0::A)++ss (0::B)))).getD .non):=by
 have l1:=Kv (0::A);have l2:=Kv (0::B);rw[vC]at l1 l2;have U:f1 dG (f2 dZ (fA eC (fV 0 av)) (fA eC (fV 1 av))) [sT one,sT other,none,none,none]=lT (vI (ss (ss (0::A)++ss (0::B)))):=mI (b:=true) (eW (x:=.lst (vI (ss (0::A)))) (y:=.lst (vI (ss (0::B)))) (b1:=true) (b2:=true) (a0 [.tup one] rr mA) (a0 [.tup other] rr c) (by
  show(if _ then _ else _)=_;rw[if_pos (bg (by simp[vI];lia))];simp[vI])) (by rw[uY];lia)
 generalize n:ss (ss (0::A)++ss (0::B))=Z at U;have ek:∀ρ:DL.Env,ρ[0]? = some (sT one)->ρ[1]? = some (sT other)->cb (f1 dG _) ρ=some (vI (ss (kn one++kn other))):=λρ h0 h1=>by
  have o:=b1.l;have p:=b2.l;have hc:=f8 (fi:=cb (f2 o3 (am 0) (am 1))) (nT:=1) (cap:=[]) (tg:=dS 0) (fe:=jw 0 0) (ρ:=ρ) (one++other) id (λr=>.int (a5 r)) (by
   have:f2 o3 (am 0) (am 1) ρ=sT (one++other):=aP (.tup one) (.tup other) (by simp[h0]) (by simp[h1]) (if_pos (bg N9));show(f2 o3 _ _ ρ).bind _=_;rw[this,map_id];rfl) (by rw[uY];lia) λr hr=>by
    have:b7 r:=by
     rcases mem_append.mp hr with h|h
     .exact(b1.g r h).1
     .exact(b2.g r h).1
    obtain⟨h,k,ag,rfl,_⟩:=this;exact⟨_,rr,false,by simp[cm,row,ra,a5]⟩
  have e:(one++other).map (λr=>D.int (a5 r))=vI (kn one++kn other):=by unfold vI kn;rw[<-uV,uO];rfl
  rw[e]at hc;show(f1 dG _ ρ).bind _=_;rw[mI (b:=true) hc (by simp[kn];lia)];rfl
 generalize ss (kn one++kn other)=K at ek;have h:=zG (j:=3) (g:=nG) (λk=>Z.findSome? (mJ one other k)) (λρ=>∃(b:Bool)(a M:OB),ρ=[sT one,sT other,some (.lst (vI Z),b),a,M]) (λk ρ O=>by
  obtain⟨b,a,M,rfl⟩:=O;have h2:=zG (j:=4) (g:=ud) (mJ one other k) (λρ=>∃M:OB,ρ=[sT one,sT other,sL (vI Z),sI k,M]) (λd ρ O=>by
   obtain⟨M,rfl⟩:=O;exact Dp b1 b2 rr rr rr ⟨_,rr⟩) Z [sT one,sT other,sL (vI Z),sI k,M] ⟨_,rr⟩
  have f:nG [sT one,sT other,some (.lst (vI Z),b),sI k,M]=vi (cb (am 2)) (dS 4) ud [sT one,sT other,sL (vI Z),sI k,M]:=by cases b<;>rfl
  show Wv _ (nG [sT one,sT other,some (.lst (vI Z),b),sI k,M]) _;rw[f];cases hz:Z.findSome? (mJ one other k) with
  |none=>
   rw[hz]at h2;obtain⟨ρ',e,M,rfl⟩:=h2;exact⟨_,cG (ds:=vI Z) rr e,_,_,_,rr⟩
  |some d=>
   rw[hz]at h2;exact xo (ds:=vI Z) rr h2) K [sT one,sT other,lT (vI Z),none,none] ⟨_,_,_,rr⟩
 unfold zH;cases hz:K.findSome? λk=>Z.findSome? (mJ one other k) with
 |none=>
  rw[hz]at h;obtain⟨ρ',e,b,a,M,rfl⟩:=h;exact ah rr (b9 U (eV _) (bv (cG (ds:=vI K) (ek _ rr rr) e) (ak rr)))
 |some d=>
  rw[hz]at h;exact ah rr (b9 U (eV _) (HU (xo (ds:=vI K) (ek _ rr rr) h)))
end
theorem sj:∀(xs ys:LD),(∀x∈xs,∀y,cJ x y=cJ y x)->gS xs ys=gS ys xs
 |[],[],_=>rr
 |[],_::_,_=>by simp
 |_::_,[],_=>by simp
 |x::xs,y::ys,h=>by
  simp [gS];rw[h x (mX ..) y,sj xs ys λz hz=>h z (mZ _ hz)]
theorem xp:∀(n:Nat)(x y:D),aH n x=true->cJ x y=cJ y x
 |n,.non,y,_=>by cases y<;>rfl
 |n,.bl a,y,_=>by cases y<;>first|rfl|simp<;>grind
 |n,.int a,y,_=>by cases y<;>first|rfl|simp<;>grind
 |n,.str a,y,_=>by cases y<;>first|rfl|simp<;>grind
 |n,.ty _,y,h=>by cases n<;>simp at h
 |n,.dk _ _,y,h=>by cases n<;>simp at h
 |n,.dt _ _,y,h=>by cases n<;>simp at h
 |0,.tup _,y,h=>by simp at h
 |0,.lst _,y,h=>by simp at h
 |n+1,.tup xs,y,h=>by
  cases y with
  |tup ys=>
   exact sj xs ys λx hx y=>xp n x y (uQ (by simpa [aH]using h) x hx)
  |_=>rfl
 |n+1,.lst xs,y,h=>by
  cases y with
  |lst ys=>
   exact sj xs ys λx hx y=>xp n x y (uQ (by simpa [aH]using h) x hx)
  |_=>rfl
theorem RE {one other:LD}(b1:Bk one)(k d:Int):KH one other k d=KH other one k d:=xp 40 _ _ (fJ b1.g (by have:=b1.l;lia) k d)
theorem RF {one other:LD}(b1:Bk one)(K Z:LI):zH one other K Z=zH other one K Z:=by
 have:mJ _ _=mJ other _:=funext λk=>funext λd=>by unfold mJ;rw[RE b1]
 unfold zH;rw[this]
theorem Dq {one:LD}(b1:Bk one)(K Z:LI):zH one one K Z=none:=by
 have:∀k d,mJ _ _ k d=none:=λk d=>by
  unfold mJ KH;rw[mo 40 _ (fJ b1.g (by have:=b1.l;lia) k d),if_pos rr]
 unfold zH;simp[this]
theorem Vr {one other:LD}{K Z:LI}(h:zH one other K Z=none):∀k∈K,∀d∈Z,KH one other k d=true:=λk hk d hd=>by
 have h1:=List.findSome?_eq_none_iff.mp h k hk;grind[mJ]
theorem Dr {one other:LD}{K Z:LI}{v:D}(h:zH one other K Z=some v):∃k d,v=.tup [.int k,.int d]:=by
 obtain⟨k,_,h1⟩:=List.exists_of_findSome?_eq_some h;obtain⟨d,_,h2⟩:=List.exists_of_findSome?_eq_some h1;grind[mJ]
theorem xx11:∀(l:LI)(x:Int),(∀y∈l,¬y<=x)\/∃y∈l,y<=x/\∀z∈l,z<=x->z<=y
 |[],x=>.inl λ_ h=>nomatch h
 |a::l,x=>by
  by_cases ha:a<=x
  .rcases xx11 l x with h|⟨y,h1,h2,h3⟩
   .exact .inr ⟨a,mX,ha,λz hz k=>(vP hz).elim (λe=>Int.le_of_eq e) λhz=>absurd k (h z hz)⟩
   .rcases Int.le_total a y with k|k
    .exact .inr ⟨y,mZ _ h1,h2,λz hz q=>(vP hz).elim (λe=>e ▸ k) λhz=>h3 z hz q⟩
    .exact .inr ⟨a,mX,ha,λz hz q=>(vP hz).elim (λe=>Int.le_of_eq e) λhz=>Int.le_trans (h3 z hz q) k⟩
  .rcases xx11 l x with h|⟨y,h1,h2,h3⟩
   .exact .inl λy hy=>(vP hy).elim (λe=>e ▸ ha) (h y)
   .exact .inr ⟨y,mZ _ h1,h2,λz hz q=>(vP hz).elim (λe=>absurd (e ▸ q) ha) λhz=>h3 z hz q⟩
theorem xq (l:LI)(x:Int):(∀y∈l,¬y<=x)\/∃y∈l,y<=x/\∀z∈l,(z<=x↔z<=y):=(xx11 l x).imp id λ⟨y,h1,h2,h3⟩=>⟨y,h1,h2,λz hz=>⟨h3 z hz,λk=>Int.le_trans k h2⟩⟩
section
variable {one other:LD}(b1:Bk one) (b2:Bk other) {K Z:LI}(hK:∀x,x∈K↔x∈kn one++kn other) (hZ:∀r∈one++other,∀x∈rX r,x∈Z) (h0:0∈Z) (h:zH one other K Z=none)
include b1 b2 hK hZ h0 h
theorem Vs (k d:Int)(hd:0<=d):KH one other k d=true:=by
 rcases xq Z d with z|⟨d',M,_,O⟩
 .exact absurd hd (z 0 h0)
 have a:=λr hr x hx=>(O x (hZ r hr x hx)).symm;have s1:Sm one d' d:=λr hr=>a r (mem_append_left _ hr);have s2:Sm other d' d:=λr hr=>a r (mY _ hr);have g1:one.length<=30:=by have:=b1.l;lia
 have b:other.length<=30:=by have:=b2.l;lia
 have mk:∀r∈one++other,a5 r∈K:=λr hr=>(hK _).mpr (by unfold kn;rw[<-uV];exact List.mem_map_of_mem hr);unfold KH;rcases xq K k with z|⟨k',U,_,c⟩
 .rw[z8 b1.g g1 (λr hr=>z _ (mk r (mem_append_left _ hr))),z8 b2.g b (λr hr=>z _ (mk r (mY _ hr)))];rfl
 .have hh:∀r∈one++other,decide (a5 r<=k)=decide (a5 r<=k'):=λr hr=>decide_eq_decide.mpr (c _ (mk r hr));rw[z6 b1.g g1 (λr hr=>hh r (mem_append_left _ hr)) s1,z6 b2.g b (λr hr=>hh r (mY _ hr)) s2];exact Vr h k' U d' M
end
theorem Bl:Bk []:=⟨V9,V9,λ_=>by simp[aj,bw],λr h=>by cases h⟩
theorem GR.bk {B:Int}{zs:LS}{aa:LD}(g:GR B zs aa)(M:Nm7 zs)(hl:aa.length<=4):Bk aa:=⟨g.all M,N9,g.off M,g.hd⟩
def Vd (v:D):Prop:=v=.non\/∃k d,v=.tup [.int k,.int d]
theorem zI {v:D}(h:Vd v):aH 40 v=true:=by rcases h with rfl|⟨k,d,rfl⟩<;>simp
theorem Ds {v:D}(h:Vd v):aI v=true:=by rcases h with rfl|⟨k,d,rfl⟩<;>rfl
theorem Vt (one other:LD)(K Z:LI):Vd ((zH one other K Z).getD .non):=by
 cases h:zH _ _ K Z with
 |none=>exact .inl rr
 |some v=>exact .inr (Dr h)
theorem zJ (k:Int):nJ [.int k]=sO true:=I9
theorem law_true (ns:LI)(_:ns.length<=63)(hf:S9 ns):∃b,F_law [.lst (ns.map .int)]=some (.bl true,b):=by
 obtain⟨N,X⟩:=km hf 0 Z9;obtain⟨c3,P⟩:=km hf 3 Z9;obtain⟨zs,Y,a⟩:=Kk N;obtain⟨aa,er,g1,h3,h4⟩:=Np hf a;obtain⟨M,s,t,u⟩:=z5 a g1 h3 h4 c3;have b1:=g1.bk a h4;have b2:=t.bk a u;obtain⟨A,hA1,w,z,C⟩:=si aa b1.h;obtain⟨B,hB1,F,G,H⟩:=si M b2.h;have mA:=Kw N9 w z;have Q:=Kw N9 F G;have wA:=zF N9 C;have wB:=zF N9 H;have I:=ko b1 b2 N9 N9 mA Q;have p2:=ko b2 b1 N9 N9 Q mA;have R:=ko b1 b1 N9 N9 mA mA;have S:eC [.tup []]=lT (vI (ss (0::[]))):=by
  rfl
 have pn:=ko Bl Bl V9 V9 S S;obtain⟨K,o⟩:∃K,K=ss (kn aa++kn M):=⟨_,rr⟩;obtain⟨Z,J⟩:∃Z,Z=ss ((0::A)++(0::B)):=⟨_,rr⟩;have z1:ss (ss (0::A)++ss (0::B))=Z:=by grind[Bj,se]
 have z2:ss (ss (0::B)++ss (0::A))=Z:=by rw[J];exact Bj λx=>by simp only[mem_append,se];exact Or.comm
 have k2:ss (kn M++kn aa)=K:=by rw[o];exact Bj λx=>by simp only[mem_append];exact Or.comm
 rw[z1,<-o]at I;rw[z2,k2,RF b2]at p2;rw[Dq b1]at R;rw[Dq Bl]at pn;obtain⟨V,L⟩:∃V,V=(zH aa M K Z).getD .non:=⟨_,rr⟩;have f:Vd V:=L ▸ Vt aa M K Z;rw[<-L]at I p2;have ed:pC [.tup aa,.tup M,.lst (vI K),.lst (vI Z)]=some (V,false):=by rw[L];exact RD b1 b2 K Z
 have l:=g1.flat a;have n:=t.flat a
 -- the environments
 let E:OB->OB->OB->OB->OB->OB->DL.Env:=λv6 v7 v8 v9 O U=>[sL (ns.map .int),lT (zs.map .str),lT aa,lT M,sT aa,sT M,v6,v7,v8,v9,O,U];have ek:f1 dG (fw (cb (f2 dZ (am 2) (am 3))) 1 [] (dS 0) pP (jw 0 0)) (E none none none none none none)=lT (vI K):=by
  have hc:=f8 (fi:=cb (f2 dZ (am 2) (am 3))) (nT:=1) (cap:=[]) (tg:=dS 0) (fe:=jw 0 0) (ρ:=E none none none none none none) (aa++M) id (λr=>.int (a5 r)) (by
   have:f2 dZ (am 2) (am 3) (E none none none none none none)=lT (aa++M):=aP (.lst aa) (.lst M) rr rr (if_pos (bg N9));show(f2 dZ (am 2) (am 3) _).bind _=_;rw[this,map_id];rfl) (by rw[uY];lia) λr hr=>by
    have:b7 r:=by
     rcases mem_append.mp hr with h|h
     .exact(b1.g r h).1
     .exact(b2.g r h).1
    obtain⟨h,k,ag,rfl,_⟩:=this;exact⟨_,rr,false,by simp[cm,row,ra,a5]⟩
  have e:(aa++M).map (λr=>D.int (a5 r))=vI (kn aa++kn M):=by unfold vI kn;rw[<-uV,uO];rfl
  rw[e]at hc;rw[o];exact mI (b:=true) hc (by simp[kn];lia)
 have ew:f1 dG (f2 dZ (fA iu (fV 2 av)) (fA iu (fV 3 av))) (E (lT (vI K)) none none none none none)=lT (vI Z):=by
  rw[J];exact mI (b:=true) (eW (x:=.lst (vI (0::A))) (y:=.lst (vI (0::B))) (b1:=true) (b2:=true) (a0 [.lst aa] rr wA) (a0 [.lst M] rr wB) (by
   show(if _ then _ else _)=_;rw[if_pos (bg (by simp[vI];lia))];grind)) Y9
 have t1:iD (bD (f2 xT (am 8) (am 7))) (bD (f2 xT (fA dN (fV 5 (fV 4 av))) (am 7))) (E (lT (vI K)) (some (V,false)) (some (V,false)) none none none)=some false:=bx (p:=false) (q:=false) (bZ (aP V V rr rr (zi (zI f)))) λ_=>bZ (aP V V (a0 [.tup M,.tup aa] rr p2) rr (zi (zI f)));have t2:iD (bD (f2 gI (fA dN (fV 9 (fV 9 av))) (fC .non))) (ft (bD (f2 je (f2 dD (fA eY (fV 0 (ao (fI 3) av))) (fI 5)) (fI 1))) (bD (f2 gI (fA dN (fV 4 (fV 4 av))) (fC .non)))) (E (lT (vI K)) (some (V,false)) (some (V,false)) (sT []) none none)=some false:=by
  refine(bx (p:=false) (q:=decide (c3 % 5=1) && false) (bZ (aP .non .non (a0 [.tup [],.tup []] rr pn) rr rr)) λ_=>ce (bZ (aP (.int (c3 % 5)) (.int 1) (im (a0 [.lst (ns.map .int),.int 3] rr P) Z9) rr V9)) λ_=>bZ (aP .non .non (a0 [.tup aa,.tup aa] rr R) rr rr)).trans ?_;simp
 have rn:ca [.lst []]=some (.tup [],false):=oV (zs:=zs) ⟨⟨V9,a⟩,λj r h=>by cases h⟩ rr _ (.inl rr);have head:∀ {T:FS}{d:D}{b:Bool},T (E (lT (vI K)) (some (V,false)) (some (V,false)) (sT []) none none)=some (.rt d b)->bd (cP 1 (fA nH (ao (fA eY (fV 0 (ao (fI 0) av))) av))) (bd (cP 2 (fA qZ (fV 0 (fV 1 av)))) (bd (cP 3 (fA jE (fV 2 (ao (fA eY (fV 0 (ao (fI 3) av))) (fV 1 av))))) (bd (cP 4 (fA ca (fV 2 av))) (bd (cP 5 (fA ca (fV 3 av))) (bd (cP 6 (f1 dG (fw (cb (f2 dZ (am 2) (am 3))) 1 [] (dS 0) pP (jw 0 0)))) (bd (cP 7 (fA pC (fV 4 (fV 5 (fV 6 (ao (f1 dG (f2 dZ (fA iu (fV 2 av)) (fA iu (fV 3 av)))) av)))))) (bd (cP 8 (fA dN (fV 4 (fV 5 av)))) (bd (p5 (iD (bD (f2 xT (am 8) (am 7))) (bD (f2 xT (fA dN (fV 5 (fV 4 av))) (am 7)))) (pf (fC (.bl false))) eN) (bd (cP 9 (fA ca (ao (fA fy av) av))) (bd (p5 (iD (bD (f2 gI (fA dN (fV 9 (fV 9 av))) (fC .non))) (ft (bD (f2 je (f2 dD (fA eY (fV 0 (ao (fI 3) av))) (fI 5)) (fI 1))) (bD (f2 gI (fA dN (fV 4 (fV 4 av))) (fC .non))))) (pf (fC (.bl false))) eN) T)))))))))) [sL (ns.map .int),none,none,none,none,none,none,none,none,none,none,none]=some (.rt d b):=λ{T d b} hT=>
  b9 (ds:=zs.map .str) (a0 [.int N] (aV (a0 [.lst (ns.map .int),.int 0] rr X) rr) Y) (bo _) (b9 (ds:=aa) (a0 [.lst (ns.map .int),.lst (zs.map .str)] rr er) l (b9 (ds:=M) (a0 [.lst aa,.int c3,.lst (zs.map .str)] (aV rr (aV (a0 [.lst (ns.map .int),.int 3] rr P) rr)) s) n (gA (.tup aa) (a0 [.lst aa] rr (g1.reg Z9 a N9 _ (.inl rr))) (by simp[l]) (gA (.tup M) (a0 [.lst M] rr (t.reg Z9 a N9 _ (.inl rr))) (by simp[n]) (b9 ek (eV _) (gA V (a0 [.tup aa,.tup M,.lst (vI K),.lst (vI Z)] (aV rr (aV rr (aV rr (a9 ew rr)))) ed) (Ds f) (gA V (a0 [.tup aa,.tup M] rr I) (Ds f) (aw t1 (gA (.tup []) (a0 [.lst []] (a9 (b:=true) (a0 [] rr (cz _ V9)) rr) rn) rr (aw t2 hT))))))))))
 rcases f with hv|⟨k,d,hv⟩
 .have Ya:zH aa M K Z=none:=by
   cases h:zH aa M K Z with
   |none=>rfl
   |some v=>
    grind[Dr]
  have hz:∀r∈aa++M,∀x∈rX r,x∈Z:=λr hr x hx=>by
   grind[se]
  have W:=Vs b1 b2 (K:=K) (Z:=Z) (λx=>by rw[o,se]) hz (by rw[J,se];simp) Ya;subst hv;obtain⟨ρ',e,O,U,rfl⟩:=me (tg:=dS 10) (g:=Rf) 6 (λ_ ρ=>∃O U,ρ=E (lT (vI K)) (sF .non) (sF .non) (sT []) O U) (E (lT (vI K)) (sF .non) (sF .non) (sT []) none none) ⟨none,none,rr⟩ (by
   rintro i ρ hi ⟨O,U,rfl⟩;obtain⟨c,s⟩:=km hf (10+i) N9;have m1:=mod_lt (x:=c / 14) (m:=14) Z9;refine⟨_,_,rr,.inl (gA (.int c) (a0 [.lst (ns.map .int),.int ((10+i:Nat):Int)] (aV rr (aV (aP (.int 10) (.int i) rr rr rr) rr)) s) rr (gL ((O2 b1 b2 (k:=c % 14) (d:=c / 14 % 14) (aV rr (aV (im rr Z9) (aV (im (u0 rr Z9 Z9) Z9) rr))) (aV rr (aV (im rr Z9) (aV (im (u0 rr Z9 Z9) Z9) rr)))).trans (by rw[W _ _ m1.1];rfl)) rr)),_,_,rr⟩)
  refine⟨false,ah rr (head (aw (bZ (aP .non .non rr rr rr)) (bv (mi (ij (j:=6) (b:=false) rr Z9) e) (ak ?_))))⟩;refine eW (a0 [.tup aa,.int 9999,.int 5000] rr (b1.jd 9999 5000)) (a0 [.tup M,.int 9999,.int 5000] rr (b2.jd 9999 5000)) ?_;have:=W 9999 5000 Z9;unfold KH at this;unfold je;rw[if_pos ⟨fJ b1.g N9 _ _,fJ b2.g N9 _ _⟩,this]
 .subst hv;exact⟨false,ah rr (head (aU (bZ (aP (.tup [.int k,.int d]) .non rr rr rr)) (ak ((bS (p:=true) (q:=true) (b1:=false) (a0 [.tup [.int k,.int d],.ty "tuple"] rr V9) λ_=>(bS (p:=true) (q:=true) (b1:=false) (a0 [.int k] (aV (by simp[E,ra]) rr) (zJ k)) λ_=>a0 [.int d] (aV (by simp[E,at1]) rr) (zJ d)).trans rr).trans rr))))⟩
end Lw
namespace Lw
open PySem PySem.Spec PyProof.Rows L2 DL
structure Tx (w:World)(K:Frag)(mg:Str->Option Value):Prop where
 hX:∃h,K.In h/\h.Ns mainGlobals mg
 d0:bM K "is_whole" (aN 6)
 d1:bM K "is_day" (aN 7)
 d2:bM K "is_stretch" (aN 8)
 d3:bM K "is_matters" (aN 12)
 d4:bM K "is_name" (aN 22)
 d5:bM K "is_rule" (aN 24)
 d6:bM K "is_piece" (aN 23)
 d7:bM K "is_pieces" (aN 25)
 d8:bM K "is_change" (aN 26)
 d9:bM K "is_changes" (aN 27)
 d10:bM K "is_part" (aN 28)
 d11:bM K "is_deed" (aN 29)
 d12:bM K "word_of" (aN 32)
 d13:bM K "part_of" (aN 33)
 d14:bM K "day_of" (aN 34)
 d15:bM K "is_timely" (aN 30)
 d16:bM K "is_row" (aN 31)
 d17:bM K "root_offices" (aN 39)
 d18:bM K "is_second_root" (aN 40)
 d19:bM K "parts_in" (aN 35)
 d20:bM K "people_in" (aN 36)
 d21:bM K "count_people" (aN 41)
 d22:bM K "is_refused" (aN 42)
 d23:bM K "register_of" (aN 43)
 d24:bM K "is_known" (aN 45)
 d25:bM K "is_paper" (aN 74)
 d26:bM K "changed" (aN 94)
 d27:bM K "put_together" (aN 95)
 d28:bM K "words" (aN 96)
 d29:bM K "lies_in" (aN 9)
 d30:bM K "heard" (aN 44)
 d31:bM K "rank" (aN 46)
 d32:bM K "in_order" (aN 48)
 d33:bM K "by_office" (aN 60)
 d34:bM K "roots" (aN 49)
 d35:bM K "tells" (aN 52)
 d36:bM K "told_of" (aN 53)
 d37:bM K "lives" (aN 54)
 d38:bM K "has_seal" (aN 55)
 d39:bM K "is_sound" (aN 56)
 d40:bM K "is_alive" (aN 58)
 d41:bM K "by_since" (aN 59)
 d42:bM K "chief_of" (aN 61)
 d43:bM K "holder_by" (aN 62)
 d44:bM K "is_held_by" (aN 63)
 d45:bM K "is_first_death" (aN 64)
 d46:bM K "counts" (aN 65)
 d47:bM K "new_claim" (aN 66)
 d48:bM K "ended" (aN 67)
 d49:bM K "inherited" (aN 69)
 d50:bM K "after_death" (aN 70)
 d51:bM K "claims" (aN 71)
 d52:bM K "is_leave" (aN 75)
 d53:bM K "is_borne" (aN 76)
 d54:bM K "covers" (aN 13)
 d55:bM K "reach_bar" (aN 80)
 d56:bM K "office_bar" (aN 81)
 d57:bM K "office_bases" (aN 84)
 d58:bM K "ends_within" (aN 11)
 d59:bM K "is_within" (aN 10)
 d60:bM K "is_ahead" (aN 47)
 d61:bM K "leave_bar" (aN 82)
 d62:bM K "leaves_to" (aN 83)
 d63:bM K "leave_bases" (aN 85)
 d64:bM K "copy_bases" (aN 86)
 d65:bM K "bases_by" (aN 87)
 d66:bM K "may_call" (aN 77)
 d67:bM K "calls_in" (aN 78)
 d68:bM K "calls_by" (aN 79)
 d69:bM K "is_fit" (aN 88)
 d70:bM K "links" (aN 89)
 d71:bM K "bears" (aN 90)
 d72:bM K "stood" (aN 91)
 d73:bM K "standing" (aN 92)
 d74:bM K "paper_behind" (aN 97)
 d75:bM K "holding" (aN 98)
 d76:bM K "whom_of" (aN 99)
 d77:bM K "judged" (aN 100)
 d78:bM K "days_in" (aN 102)
 d79:bM K "moments" (aN 103)
 d80:bM K "parted" (aN 104)
 d81:bM K "_law_cell" (aN 106)
 d82:bM K "_law_names" (aN 107)
 d83:bM K "_law_deed" (aN 108)
 d84:bM K "_law_rows" (aN 109)
 d85:bM K "_law_changed" (aN 110)
 d86:bM K "_law_days" (aN 111)
 d87:bM K "_law_due" (aN 112)
 d88:bM K "_law_whole" (aN 113)
 d89:bM K "law" (aN 114)
 n0:mg "all" = none
 n1:mg "any" = none
 n2:mg "bool" = none
 n3:mg "dict" = none
 n4:mg "enumerate" = none
 n5:mg "int" = none
 n6:mg "isinstance" = none
 n7:mg "len" = none
 n8:mg "list" = none
 n9:mg "max" = none
 n10:mg "min" = none
 n11:mg "range" = none
 n12:mg "reversed" = none
 n13:mg "set" = none
 n14:mg "sorted" = none
 n15:mg "str" = none
 n16:mg "tuple" = none
 n17:mg "zip" = none
 k0:KC K mg "ALL_MATTERS" kL
 k1:KC K mg "LAST_DAY" qO
 k2:KC K mg "MOST_FURTHER" jz
 k3:KC K mg "MOST_LETTERS" j0
 k4:KC K mg "MOST_PEOPLE" kM
 k5:KC K mg "MOST_PIECES" gM
 k6:KC K mg "MOST_ROWS" j4
 k7:KC K mg "PAPERS" yI
 k8:KD w K mg "PARTS" bI
 k9:KC K mg "PERSON_PARTS" ga
 k10:KC K mg "RULES" Cp
 k11:KC K mg "SEALINGS" gb
 l32:y0 K "in_order"
 l38:y0 K "has_seal"
 l45:y0 K "is_first_death"
 l65:y0 K "bases_by"
section
variable {w:World}{K:Frag}{mg:SV}(T:Tx w K mg)
include T
theorem XR:ma w K mg Ew:=⟨T.hX,nofun,by simp only[Ew,forall_mem_cons];exact⟨T.k0,T.k1,T.k2,T.k3,T.k4,T.k5,T.k6,T.k7,T.k9,T.k10,T.k11,nofun⟩,by simp only[Ew,forall_mem_cons];exact⟨T.k8,nofun⟩,by simp only[Ew,forall_mem_cons];exact⟨T.n0,T.n1,T.n2,T.n3,T.n4,T.n5,T.n6,T.n7,T.n8,T.n9,T.n10,T.n11,T.n12,T.n13,T.n14,T.n15,T.n16,T.n17,nofun⟩,by simp only[Ew,forall_mem_cons];exact⟨T.l32,T.l38,T.l45,T.l65,nofun⟩⟩
theorem Vu:ma w K mg (Cr.gt bj):=Cr.o T.d14 (HZ.o T.d13 (HY.o T.d12 (HX.o T.d11 (HW.o T.d10 (Re.o T.d9 (Rc.o T.d8 (Rb.o T.d7 (Ra.o T.d6 (QZ.o T.d5 (QY.o T.d4 (QX.o T.d3 (QW.o T.d2 (QU.o T.d1 (QT.o T.d0 (XR T) 3) 1) 1) 1) 1) 1) 1) 1) 1) 1) 2) 1) 1) 2) 1
theorem Vv:ma w K mg (Cv.gt kg):=Cv.o T.d29 (Cu.o T.d28 (yL.o T.d27 (Il.o T.d26 (Ik.o T.d25 (Ij.o T.d24 (Ct.o T.d23 (Ii.o T.d22 (Cs.o T.d21 (Ih.o T.d20 (Ig.o T.d19 (Ie.o T.d18 (Ic.o T.d17 (Ib.o T.d16 (Ia.o T.d15 (Vu T) 1) 1) 1) 2) 1) 1) 1) 2) 1) 3) 3) 3) 2) 3) 2
theorem Vw:ma w K mg (Cy.gt dL):=Cy.o T.d44 (IC.o T.d43 (IB.o T.d42 (IA.o T.d41 (Iz.o T.d40 (Iy.o T.d39 (Ix.o T.d38 (Iw.o T.d37 (Iv.o T.d36 (Iu.o T.d35 (Ir.o T.d34 (Iq.o T.d33 (Ip.o T.d32 (Io.o T.d31 (Im.o T.d30 (Vv T) 2) 2) 2) 1) 2) 4) 5) 4) 4) 3) 2) 1) 2) 3) 4
theorem Vx:ma w K mg (C3.gt gE):=C3.o T.d59 (IN.o T.d58 (IM.o T.d57 (IL.o T.d56 (IK.o T.d55 (IJ.o T.d54 (II.o T.d53 (IH.o T.d52 (C2.o T.d51 (IG.o T.d50 (C1.o T.d49 (Cz.o T.d48 (IF.o T.d47 (IE.o T.d46 (ID.o T.d45 (Vw T) 3) 4) 3) 4) 5) 5) 2) 3) 3) 2) 2) 3) 4) 2) 2
theorem Vy:ma w K mg (yO.gt dM):=yO.o T.d74 (Jd.o T.d73 (C6.o T.d72 (Jb.o T.d71 (C4.o T.d70 (IZ.o T.d69 (IY.o T.d68 (IX.o T.d67 (IW.o T.d66 (IV.o T.d65 (IU.o T.d64 (IT.o T.d63 (IS.o T.d62 (IQ.o T.d61 (IP.o T.d60 (Vx T) 3) 3) 3) 3) 3) 4) 5) 6) 5) 5) 3) 2) 1) 3) 2
theorem Vz:ma w K mg (CD.gt nJ):=CD.o T.d88 (yR.o T.d87 (CC.o T.d86 (jD.o T.d85 (CB.o T.d84 (Ji.o T.d83 (CA.o T.d82 (Jh.o T.d81 (yP.o T.d80 (C9.o T.d79 (C8.o T.d78 (Jg.o T.d77 (Jf.o T.d76 (Je.o T.d75 (Vy T) 3) 2) 3) 1) 1) 2) 2) 1) 3) 2) 3) 1) 4) 1
theorem head {P:Program}{fa:Addr}(M:mg "law" = some (.ref fa)):∃fd:FuncData,(∀(s:Shared)(u:Value),BindsTo s fd ⟨[u],[]⟩ [("_law_script",u)])/\∀base:Heap,K.In base->base.Ns mainGlobals mg->mK P w K mg base xE 18 fa fd ["_law_script"] (KA K F_law):=by
 have S:FnScope ["_law_script","_law_names_here","_law_rows_here","_law_changed_here","_law_one","_law_other","_law_knowns","_law_due_here","_law_found","_law_none","_law_k","_law_cell_here"] ["_law_script"] (a8 (aN 114)):=by refine⟨rr,rr,rr,?_,rr,?_,?_⟩<;>decide +kernel
 have ⟨h,X,G⟩:=T.hX;have e:F_law=ax (CF.r.getD pV) 1 11:=W9
 rw[e];exact bM.law T.d89 X G M S (λ_ _ _ _ _ _ u=>rr) λbase O U f cW A outer s H E hr=>CF.js H9 (Vz T) S.nd hr λh=>absurd h H9
end
end Lw
end
end Lake
open Lake
structure PySem.W.Fast:Prop where(tw6068179987670143964 tw17540674159276578625 tw11477632579582994882 tw18027541152962255958 tw17769823500824794812 tw4868962985416132799 tw14318471322168628328 tw429223774843095269 tw6475938918535179766 tw13381217446424716121 tw374729782858700535 tw11064684791684869739 tw13009170711730969773 tw576983955699250705 tw15444462735007273511 tw1070577178665542797 tw2766780751238097799 tw4426048887615692804 tw12525538307451593964 tw752491369520821554 tw11110236931981342438 tw11683836863881732390 tw10290297831544108189 tw15695928564516936562 tw14374638793671460907 tw18350752614566199978 tw14348635577512807877 tw6303054377090769243 tw15703355482938028685 tw6783201874116610840 tw182913300613542648 tw13772298554445689575 tw5936076168881386301 tw13691781864114886943 tw8207720763303579024 tw10486768387223259186 tw5973096342009100188 tw819418886838618758 tw5506210843500873110 tw9797050596483147655 tw14518612906363543779 tw12558411542293295607 tw4841947231163853836 tw5741563159437257533 tw3790179345594937655 tw2824776823633659089 tw6508521845264847065 tw12528466981279621777 tw17454557589796710241 tw4680260611849213557 tw7610820086068382235 tw15095325637756052070 tw3825778669913421010 tw9768142290011244285 tw9660179214620052219 tw7553055478144874016 tw11010439444539918082 tw11588212653414349522 tw1752129514636205676 tw9226772263936192327 tw13632648793946038779 tw11992353131064422349 tw3203865025725076192 tw16377522073290663531 tw118559005372275953 tw3890320584158353057 tw5402237345613921922 tw11415349426408727153 tw13531884113808301247 tw12472883459140981219 tw12889920102922371915 tw8283574598219228452 tw4636357641245788639 tw4971022338530605796 tw7937220611914618656 tw17908871281446021112 tw10880952649222443575 tw4460941715303253666 tw2315417568575332323 tw13460783483216886585 tw17003735698111286589 tw12620702306303592516 tw1503158781934575061 tw523519257302279089 tw2797366408813340337 tw149674518486668805 tw9101079231539280865 tw2883450640274006154 tw11879935984034731415 tw15216823298385342083 tw17346709659191946714 tw14159425963947808517 tw2949067991461170964 tw5341252609809144192 tw1331189829496663139 tw10595860821339987230 tw1039709343825207478 tw18040559509314583413 tw15791004274531202659 tw731007928056376967 tw7648222613690009565 tw2224647774113884108 tw14281634830570452082 tw11530666661463975128 tw4894168830014676351 tw14077820059799044219 tw6387317619694920854 tw911200104956775037 tw7180354257109239409 tw15863595785434066261 tw9196978152794065624 tw16865531938617757003 tw13258117764208306787 tw1514881360361773578 tw17424909866771129351 tw11711162848589749566 tw5188023574760863041 tw12961554969044632442 tw294856169686132312 tw8666218383320987978 tw17178893912493447135 tw8538413026986871091 tw1278116089916208532 tw18412221488792700097 tw4381179354389530040 tw1719296529597145041 tw9755593944478419623 tw5956342606116173158 tw6156722313557675858 tw16089754123892014872 tw7433172695589685686 tw13672315959098185986 tw6620470190960548609 tw17331427326023047303 tw178981921255165252 tw4756271120845329009 tw17107056398400087837 tw17690203828965036157 tw4301382630017765005 tw13518635697741559259 tw3510675806533694106 tw7664955708651730781 tw2623180308805737613 tw16009813267539108385 tw9739531624748581829 tw15831959289240337370 tw11926188885548302962 tw18299740283613818565 tw1033055308179783446 tw14482048660254621646 tw8634783315879543479 tw10363296554677400440 tw11733830803593327957 tw4364629318377624478 tw4932422212470980627 tw13967778644653237971 tw2954162611325901036 tw18021574218844197695 tw9678526314106843024 tw4336372164409523449 tw3195381612510228781 tw1118210105029696541 tw7001300100655154741 tw14743971949112702747 tw17655032916269637753 tw3928633711861380086 tw10196288683509633487 tw14923171523797069108 tw16687500255484108281 tw2101591662896674003 tw12698680140249359301 tw5284878911071219817 tw13424899135473744425 tw10478405222037345993 tw18339536082449591891 tw11530677623163538963 tw6800494759606184347 tw16651026031300992593 tw18423044503921682637 tw7807231233004296723 tw10992314053579407696 tw14188570441927495468 tw9869547505005984852 tw12315489928331802143 tw13078454456683942433 tw6335302776943553464 tw11881673165217928783 tw18178364561458453992 tw4987259177484747501 tw9707259838964592676 tw9651450975032297482 tw17157208010662568703 tw10251978479952649909 tw6367461147301479031 tw17141111261819800663 tw14900151992565125398 tw14209941341000212060 tw12363523112656998092 tw9317293208503228689 tw1358437239398606981 tw10256880553757589201 tw17995310566980036967 tw1272713114448508293 tw17097189038131013599 tw18265060889480167829 tw5462165640990501763 tw1073883267359462627 tw15190570988087694848 tw16194294621557591334 tw5079257590901722950 tw7304894956098768452 tw6698629805324727543 tw398270684414481728 tw915361875211309933 tw6913502263588094178 tw2459450597022683524 tw10769789361630609007 tw735133182918535284 tw74917009170633412 tw1628110054781587264 tw500259430558929326 tw11892570262800276912 tw7807333532027668248 tw177831967914811783 tw4398355112986799814 tw13071698128222795308 tw649913520702304961 tw4189562814778890599 tw3210136721789953116 tw810601338442795586 tw9005764044697288129 tw6066576149473868951 tw1199798356334690715 tw11591066441781432858 tw9946388474166493857 tw6821637295823117588 tw11718049580500580588 tw13104927694418627718 tw13532223590621479891 tw87431540438653426 tw12555446821202258292 tw4715253071846091272 tw2342535330165488428 tw13671852963032397633 tw12094322197954457176 tw28921423365497788 tw13177248982568414444 tw1970258692508821322 tw4766252433313764356 tw17864128318688744560 tw13963824903015591884 tw1120186860308584699 tw13083898150496260557 tw393066579581827698 tw2624115556610368739 tw14809886083273643589 tw6949742351937004262 tw18393822175967324330 tw17079926639055410627 tw1364388812620155694 tw17330677275505511490 tw15345195763068964257 tw6594232244898720225 tw11885730735802909618 tw10065334975564977573 tw15232274590555186770 tw466889264778612992 tw4474808041635533500 tw16381325215108706216 tw14757093028867789068 tw3934737275548445626 tw3271885793887105760 tw9977614491760580125 tw9091637965838576245 tw3280914800683083345 tw2344091416883193531 tw11829715787711424688 tw15314019022328283211 tw7564645464877483367 tw13263997819909635635 tw9823699422910385671 tw14024037514346821976 tw8105704632241950649 tw7139346979483071109 tw4948034475167110871 tw4822076719715101003 tw4320953222909598421 tw1458669223275270796 tw7375647091328396887 tw15456005588446051975 tw7789915845497572249 tw1978811620765511884 tw18380855884826788318 tw17776545998430071146 tw13546854118124791655 tw13515067705894872858 tw2951996704280849868 tw16943834552006414165 tw12445721893609197759 tw7989469663753997314 tw18235926858229573985 tw17331254981118979250 tw15992192866960689404 tw14114601683231441263 tw14068355166040996069 tw14007270513193124085 tw6815845528423937460 tw17426357844557822399 tw14415414169466169721 tw5617206531259136675 tw3560989189114631581 tw15109288491220251769 tw1495639515438955695 tw6619248371356300220 tw2401718505764901808 tw1464366939913776971 tw12931463869761924794 tw3188673825017540820 tw11517031646573600805 tw6641380020077849127 tw11329903844557837396 tw8461644788260325251 tw3938021837652230109 tw3562456532928544269 tw2640330766487628716 tw18175183154305250716 tw5801888433544262986 tw15007387639692249563 tw7915435623667103614 tw18336100187126709488 tw13688898038121589184 tw11947870217611905185 tw11652691825078603405 tw6743898420356296040 tw16799559180113390542 tw11789510303158226597 tw7321818615601569351 tw1051788792543522403 tw6213023459383854891 tw3409073345836184531 tw14040932195489010364 tw7929591313041788544 tw3711301792978472541 tw3833790935041562719 tw12075215849475147423 tw14183945517866305385 tw7376281157049738618 tw9103664204722707902 tw4950543178887927831 tw15468412117356968995 tw1085358993982822846 tw11501808247475238711 tw14304875205121676348 tw2977621350131933702 tw9533051011278027913 tw470808086105143908 tw10257590726753644173 tw16725529292897782439 tw16929344564850411385 tw11323274232179972460 tw9310820270739165438 tw4750605831280629988 tw3998745211140764625 tw16516640582097092023 tw14514532699212660170 tw14195753395270167185 tw8011408379168884966 tw15974099258355743175 tw7800522505221631068 tw140985796518755578 tw13132317561989050562 tw8778661094574414670 tw10889689939568434697 tw2368013373881990228 tw17077508894054981959 tw9430007682630029300 tw8414373763054267267 tw5303563580395442142 tw6530217801028648323 tw2587587689124249156 tw16413101569421547145 tw7415053834920968876 tw1607067823350618385 tw8529353437538885622 tw7072930670222761769 tw5778203939691426354 tw2101660980565820899 tw11574141897423241012 tw2730926359209965185 tw8973547339495867237 tw693091824739190130 tw1908071159030457086 tw12090488345166754388 tw18273603797592266329 tw12064445464831353367 tw6433474049625236211 tw1218496031146816264 tw1914598792028875187 tw8307534643294095681 tw15560957375235054304 tw1342208391494519819 tw8705872898852038437 tw8642370209167675698 tw4951881304366162360 tw4492795148509853143 tw16484054853564000210 tw13402211180910346148 tw12417305865567173081 tw12261054909240282464 tw10023292145149703921 tw14375338926194727100 tw11589875638434487707 tw635703904191089329 tw13810588069963734655 tw11228823745380594862 tw11794789724722724128 tw8669984472766490063 tw2697827325765499119 tw237144129298819548 tw6100915432926387035 tw17532911732356055048 tw17344664381204299257:True)
open PySem PySem.W PyProof.Rows
set_option maxRecDepth 100000 in
set_option maxHeartbeats 0 in
theorem PySem.Challenge.cw_sealchain_k47_registers_parted_holds : PySem.Challenge.rw_sealchain_k47_registers_parted.Holds := by
 w_on; o_law; k_head; (case hw => w_witness2)
 k_fill
 refine' DL.walkB (l := PySem.Challenge.rw_sealchain_k47_registers_parted) (k := 18) (x := ("_law_script" : PySem.Str)) (f := Lw.F_law) (L := [(("in_order" : PySem.Str), ?t0), (("has_seal" : PySem.Str), ?t1), (("is_first_death" : PySem.Str), ?t2), (("bases_by" : PySem.Str), ?t3), (("as_heard" : PySem.Str), ?t4)]) rfl rfl ⟨rfl, by decide, by decide⟩ (fun w h Y => PySem.W.km_in_of Y) ?T ?D ?F Lw.law_true
 case T =>
  intro w
  refine' DL.tabs_fit ?h0 ?h1 ?h2 ?h3 ?h4 ?ap ?nt
  (case h0 => refine' DL.tab_yes ?a ?l ?c ?m ?v; (case a => k_is); (case l => k_is); (case c => exact rfl); (case m => k_is); (case v => exact rfl))
  (case h1 => refine' DL.tab_yes ?a ?l ?c ?m ?v; (case a => k_is); (case l => k_is); (case c => exact rfl); (case m => k_is); (case v => exact rfl))
  (case h2 => refine' DL.tab_yes ?a ?l ?c ?m ?v; (case a => k_is); (case l => k_is); (case c => exact rfl); (case m => k_is); (case v => exact rfl))
  (case h3 => refine' DL.tab_yes ?a ?l ?c ?m ?v; (case a => k_is); (case l => k_is); (case c => exact rfl); (case m => k_is); (case v => exact rfl))
  (case h4 => refine' DL.tab_no ?a; (case a => k_is))
  (case ap => decide)
  (case nt => kernel_rfl)
 case D => kernel_rfl
 case F =>
  intro w mg fa h KX G hmg
  refine' Lw.head ⟨⟨h, KX, G⟩, ?d0, ?d1, ?d2, ?d3, ?d4, ?d5, ?d6, ?d7, ?d8, ?d9, ?d10, ?d11, ?d12, ?d13, ?d14, ?d15, ?d16, ?d17, ?d18, ?d19, ?d20, ?d21, ?d22, ?d23, ?d24, ?d25, ?d26, ?d27, ?d28, ?d29, ?d30, ?d31, ?d32, ?d33, ?d34, ?d35, ?d36, ?d37, ?d38, ?d39, ?d40, ?d41, ?d42, ?d43, ?d44, ?d45, ?d46, ?d47, ?d48, ?d49, ?d50, ?d51, ?d52, ?d53, ?d54, ?d55, ?d56, ?d57, ?d58, ?d59, ?d60, ?d61, ?d62, ?d63, ?d64, ?d65, ?d66, ?d67, ?d68, ?d69, ?d70, ?d71, ?d72, ?d73, ?d74, ?d75, ?d76, ?d77, ?d78, ?d79, ?d80, ?d81, ?d82, ?d83, ?d84, ?d85, ?d86, ?d87, ?d88, ?d89, PySem.W.mg_none_of KX G ?z0, PySem.W.mg_none_of KX G ?z1, PySem.W.mg_none_of KX G ?z2, PySem.W.mg_none_of KX G ?z3, PySem.W.mg_none_of KX G ?z4, PySem.W.mg_none_of KX G ?z5, PySem.W.mg_none_of KX G ?z6, PySem.W.mg_none_of KX G ?z7, PySem.W.mg_none_of KX G ?z8, PySem.W.mg_none_of KX G ?z9, PySem.W.mg_none_of KX G ?z10, PySem.W.mg_none_of KX G ?z11, PySem.W.mg_none_of KX G ?z12, PySem.W.mg_none_of KX G ?z13, PySem.W.mg_none_of KX G ?z14, PySem.W.mg_none_of KX G ?z15, PySem.W.mg_none_of KX G ?z16, PySem.W.mg_none_of KX G ?z17, DL.kc_of KX G ?k0, DL.kc_of KX G ?k1, DL.kc_of KX G ?k2, DL.kc_of KX G ?k3, DL.kc_of KX G ?k4, DL.kc_of KX G ?k5, DL.kc_of KX G ?k6, DL.kc_of KX G ?k7, DL.kd_of KX G ?k8, DL.kc_of KX G ?k9, DL.kc_of KX G ?k10, DL.kc_of KX G ?k11, ?q0, ?q1, ?q2, ?q3⟩ hmg
  iterate 90 (refine' DL.def_mk ?a ?l ?c ?k; (case a => k_is); (case l => k_is); (case c => k_is); (case k => k_is))
  (case z0 => k_is)
  (case z1 => k_is)
  (case z2 => k_is)
  (case z3 => k_is)
  (case z4 => k_is)
  (case z5 => k_is)
  (case z6 => k_is)
  (case z7 => k_is)
  (case z8 => k_is)
  (case z9 => k_is)
  (case z10 => k_is)
  (case z11 => k_is)
  (case z12 => k_is)
  (case z13 => k_is)
  (case z14 => k_is)
  (case z15 => k_is)
  (case z16 => k_is)
  (case z17 => k_is)
  (case k0 => refine' DL.const_int ?e; (case e => k_is))
  (case k1 => refine' DL.const_int ?e; (case e => k_is))
  (case k2 => refine' DL.const_int ?e; (case e => k_is))
  (case k3 => refine' DL.const_int ?e; (case e => k_is))
  (case k4 => refine' DL.const_int ?e; (case e => k_is))
  (case k5 => refine' DL.const_int ?e; (case e => k_is))
  (case k6 => refine' DL.const_int ?e; (case e => k_is))
  (case k7 => refine' DL.const_tup ?e ?l ?v; (case e => k_is); (case l => k_is); (case v => decide +kernel))
  (case k8 => refine' DL.const_dict ?e ?l ?r ?s; (case e => k_is); (case l => k_is); (case r => refine' (DL.CRows.tup rfl ?l0 ?f0 (DL.CRows.tup rfl ?l1 ?f1 (DL.CRows.tup rfl ?l2 ?f2 (DL.CRows.tup rfl ?l3 ?f3 (DL.CRows.tup rfl ?l4 ?f4 (DL.CRows.tup rfl ?l5 ?f5 (DL.CRows.tup rfl ?l6 ?f6 (DL.CRows.tup rfl ?l7 ?f7 (DL.CRows.tup rfl ?l8 ?f8 (DL.CRows.tup rfl ?l9 ?f9 (DL.CRows.tup rfl ?l10 ?f10 (DL.CRows.tup rfl ?l11 ?f11 DL.CRows.nil)))))))))))); (case l0 => k_is); (case f0 => decide +kernel); (case l1 => k_is); (case f1 => decide +kernel); (case l2 => k_is); (case f2 => decide +kernel); (case l3 => k_is); (case f3 => decide +kernel); (case l4 => k_is); (case f4 => decide +kernel); (case l5 => k_is); (case f5 => decide +kernel); (case l6 => k_is); (case f6 => decide +kernel); (case l7 => k_is); (case f7 => decide +kernel); (case l8 => k_is); (case f8 => decide +kernel); (case l9 => k_is); (case f9 => decide +kernel); (case l10 => k_is); (case f10 => decide +kernel); (case l11 => k_is); (case f11 => decide +kernel)); (case s => decide +kernel))
  (case k9 => refine' DL.const_tup ?e ?l ?v; (case e => k_is); (case l => k_is); (case v => decide +kernel))
  (case k10 => refine' DL.const_tup ?e ?l ?v; (case e => k_is); (case l => k_is); (case v => decide +kernel))
  (case k11 => refine' DL.const_tup ?e ?l ?v; (case e => k_is); (case l => k_is); (case v => decide +kernel))
  (case q0 => refine' DL.lam_mk ?a ?l ?c ?m ?v1 ?v2 ?v3 ?v4 ?v5 ?v6 ?v7; (case a => k_is); (case l => k_is); (case c => exact rfl); (case m => k_is); (case v1 => exact rfl); (case v2 => exact rfl); (case v3 => exact rfl); (case v4 => exact rfl); (case v5 => exact rfl); (case v6 => exact rfl); (case v7 => decide))
  (case q1 => refine' DL.lam_mk ?a ?l ?c ?m ?v1 ?v2 ?v3 ?v4 ?v5 ?v6 ?v7; (case a => k_is); (case l => k_is); (case c => exact rfl); (case m => k_is); (case v1 => exact rfl); (case v2 => exact rfl); (case v3 => exact rfl); (case v4 => exact rfl); (case v5 => exact rfl); (case v6 => exact rfl); (case v7 => decide))
  (case q2 => refine' DL.lam_mk ?a ?l ?c ?m ?v1 ?v2 ?v3 ?v4 ?v5 ?v6 ?v7; (case a => k_is); (case l => k_is); (case c => exact rfl); (case m => k_is); (case v1 => exact rfl); (case v2 => exact rfl); (case v3 => exact rfl); (case v4 => exact rfl); (case v5 => exact rfl); (case v6 => exact rfl); (case v7 => decide))
  (case q3 => refine' DL.lam_mk ?a ?l ?c ?m ?v1 ?v2 ?v3 ?v4 ?v5 ?v6 ?v7; (case a => k_is); (case l => k_is); (case c => exact rfl); (case m => k_is); (case v1 => exact rfl); (case v2 => exact rfl); (case v3 => exact rfl); (case v4 => exact rfl); (case v5 => exact rfl); (case v6 => exact rfl); (case v7 => decide))
