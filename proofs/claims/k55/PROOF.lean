import PyProof.Rows.All
import Wide.All
import OpenK.AllK
import Wide.FinOn
import Lean
import PyProof.EqAt
import PyProof.EqKinds
import PyProof.TupleCall
import PyProof.AttrMissHeap
import PySem.Challenge.RW_sealchain_k55_whole_called_in
set_option Elab.async false
set_option linter.all false
set_option maxRecDepth 100000
set_option bootstrap.genMatcherCode false
set_option compiler.extract_closed false
set_option backward.eqns.nonrecursive false
set_option genSizeOf false
set_option genInjectivity false
set_option maxHeartbeats 40000000
namespace Lake
def rr {α:Sort _}{a:α}:a=a:=rfl
def N9 {p:Prop}(h:p:=by lia):p:=h
def H9 {p:Prop}(h:p:=by simp):p:=h
def O9 {p:Prop}(h:p:=by decide):p:=h
def I9 {p:Prop}(h:p:=by decide +kernel):p:=h
def Y9 {p:Prop}(h:p:=by rfl):p:=h
def s9 {p:Prop}(h:p:=by simp;lia):p:=h
def q9 {p:Prop}(h:p:=by simp[sizeLine]):p:=h
def N8 {p:Prop}(h:p:=by kernel_rfl):p:=h
def H8 {p:Prop}(h:p:=by size_fits):p:=h
def mY {α:Type _}{a:α}(l:List α){k:List α}(h:a∈k):a∈l++k:=List.mem_append_right l h
def mZ {α:Type _}(b:α){a:α}{l:List α}(h:a∈l):a∈b::l:=List.mem_cons_of_mem b h
theorem mX {α:Type _}{a:α}{l:List α}:a∈a::l:=List.mem_cons_self
def oX {α M:Type _}{o:Option α}{f:α->Option M}{b:M}(h:o.bind f=some b):∃a,o=some a/\f a=some b:=Option.bind_eq_some_iff.mp h
def oY {α M:Type _}{f:α->M}{o:Option α}{b:M}(h:o.map f=some b):∃a,o=some a/\f a=b:=Option.map_eq_some_iff.mp h
def wX:=@PySem.wpAny_bind
def wY:=@PySem.wpAny_pure
def vZ:=@PySem.Heap.get?_push_of_some
def vY:=@PySem.Heap.get?_push_size
def vX:=@PySem.Heap.lt_size
def vW:=@PySem.Heap.SameBut.update
def vV {α:Type _}{l:List α}{i:Nat}{a:α}(h:l[i]? = some a):∃h:i<l.length,l[i]=a:=List.getElem?_eq_some_iff.mp h
def vU {α:Type _}{l:List α}{i:Nat}(h:i<l.length):l[i]? = some l[i]:=List.getElem?_eq_getElem h
def vT (n:Nat):n<=n:=Nat.le_refl n
def vS {a b:Nat}(h:a<b):a≠b:=Nat.ne_of_lt h
def vR {n m k:Nat}:n<=m->m<=k->n<=k:=Nat.le_trans
def vQ {n m k:Nat}:n<m->m<=k->n<k:=Nat.lt_of_lt_of_le
def vP {α:Type _}{a b:α}{l:List α}(h:b∈a::l):b=a\/b∈l:=List.mem_cons.mp h
def vO {α M:Type _}{b:M}{f:α->M}{l:List α}(h:b∈l.map f):∃a,a∈l/\f a=b:=List.mem_map.mp h
def vN {α:Type _}{a:α}{p:α->Bool}{l:List α}(h:a∈l.filter p):a∈l/\p a=true:=List.mem_filter.mp h
def vM {α:Type _}(p:α->Bool)(l:List α):(l.filter p).length<=l.length:=List.length_filter_le p l
def vL {α:Type _}{l:List α}{i:Nat}{a:α}(h:l[i]? = some a):a∈l:=List.mem_of_getElem? h
def vK {α:Type _}{a b:α}(h:some a=some b):a=b:=Option.some.inj h
def vJ {α M:Type _}(a:α)(f:α->Option M):(some a).bind f=f a:=rfl
def vI {α M:Type _}{as:List α}(f:α->M):(as.map f).length=as.length:=List.length_map f
def vH {α:Type _}{l:List α}:l.toArray.size=l.length:=rfl
def vG {α:Type _}{xs:Array α}:xs.toList.length=xs.size:=rfl
def vF {α:Type _}{l:List α}{i:Nat}{a:α}:l.getD i a=l[i]?.getD a:=List.getD_eq_getElem?_getD
def vE {α:Type _}{a:α}{as:List α}:(a::as).length=as.length+1:=rfl
def vC (a b:Bool):((a && b)=true)=(a=true/\b=true):=Bool.and_eq_true a b
def vB {α:Type _}{i j:Nat}{a:α}{l:List α}(h:i≠j):(l.set i a)[j]? = l[j]?:=List.getElem?_set_ne h
def vA {α M:Type _}{f:α->M}{l:List α}{i:Nat}:(l.map f)[i]? = Option.map f l[i]?:=List.getElem?_map
def uZ {α:Type _}{as bs:List α}:(as++bs).length=as.length+bs.length:=List.length_append
def uY {α M:Type _}{f:α->M}{a:α}{l:List α}:(a::l).map f=f a::l.map f:=rfl
def uX:false≠true:=Bool.false_ne_true
def uW {α O:Type _}{f:α->O}{l M:List α}:(l++M).map f=l.map f++M.map f:=List.map_append
def uV:(false=true)=False:=Bool.false_eq_true
def uU {α:Type _}{x:Option α}(h:x.isSome=true):∃a,x=some a:=Option.isSome_iff_exists.mp h
def uT {α:Type _}{a b:α}(h:a∈[b]):a=b:=List.mem_singleton.mp h
def uS {α M:Type _}{b:M}{f:α->M}{l:List α}(h:∃a,a∈l/\f a=b):b∈l.map f:=List.mem_map.mpr h
def uQ {α:Type _}(as:List α):as++[]=as:=List.append_nil as
def uP {α M O:Type _}{g:M->O}{f:α->M}{l:List α}:(l.map f).map g=l.map (g ∘ f):=List.map_map
def uN (n:Nat):0<=n:=Nat.zero_le n
def ou {p:Prop}[Decidable p](h:p):decide p=true:=decide_eq_true h
def xx {p:Prop}[Decidable p](h:¬p):decide p=false:=decide_eq_false h
def xy {p:Prop}[Decidable p](h:decide p=true):p:=of_decide_eq_true h
noncomputable section
abbrev _root_.PySem.Shared.z (s:PySem.Shared):=s.heap.objs.size
open PySem.W (Frag kia_one fnOf nsIn mg_of)
open List (mem_append mem_append_left getElem?_set_self mem_filterMap any_eq_false nodup_cons of_mem_zip getElem?_append_right getElem?_append_left take_sublist length_take length_set all_cons any_cons nodup_nil lookup_cons length_replicate append_assoc not_mem_nil length_range all_eq_true mem_singleton find?_cons pairwise_cons mem_iff_getElem? pairwise_map getElem_mem nodup_append take_add_one mem_range getElem?_eq_none ext_getElem? not_lt lt_irrefl lt_trans nil_perm cons_lt_cons_iff cons_append getElem?_zip_eq_some length_zip zip_cons_cons foldl_cons take_length reverse_cons filter_eq_self length_zipIdx zip_map' mem_zipIdx_iff_getElem? filter_sublist mem_of_mem_take mem_filter flatMap_cons length_singleton map_id mem_cons filter_cons length_nil filter_filter filter_map filter_congr any_eq_true forall_mem_cons)
open Nat (le_of_lt ne_of_gt le_of_eq le_succ_of_le le_succ lt_of_le_of_lt lt_succ_of_lt)
open PySem.F (slot_tuple_add slot_dict_get entry_dict_get plainAttrs_dict plainAttrs_list slot_tuple_iterator_next slot_zip_next entry_zip_next args_zip_next_1 called_set slot_set_iter plain_extend_loop slot_tuple_lt slot_tuple_gt called_list slot_list_getattribute)
abbrev QV:=PySem.Value->PySem.Shared->Prop
abbrev AO:=List (PySem.Addr×PySem.Obj)
abbrev SV:=PySem.Str->Option PySem.Value
abbrev LU:=List PySem.Value
abbrev AV:=Array PySem.Value
abbrev LS:=List PySem.Str
abbrev QD:=List PySem.Expr
abbrev LN:=List Nat
abbrev LI:=List Int
abbrev OI:=Option Int
namespace L2
open PySem PySem.Spec PyProof.Rows
abbrev cZ:=Sum Int Str
noncomputable def tG:cZ->Value->Bool
 |.inl k,v=>Value.isInt k v
 |.inr x,v=>Value.isStrOf x v
noncomputable def Xn (w:World):cZ->Int
 |.inl k=>hashInt k
 |.inr x=>hashStr w x
theorem cR:∀ {k:cZ}{v:Value},tG k v=true->(∃i t,k=Sum.inl i/\v=Value.int i t)\/(∃x t,k=Sum.inr x/\v=Value.str x t)
 |.inl i,v,h=>by
  obtain⟨t,e⟩:=Value.isInt_shape h;exact .inl ⟨i,t,rr,e⟩
 |.inr x,v,h=>by
  obtain⟨t,e⟩:=Value.isStrOf_shape h;exact .inr ⟨x,t,rr,e⟩
def DJ (i:Int)(t:Tok):tG (.inl i) (.int i t)=true:=by simp[tG,Value.isInt]
def DK (x:Str)(t:Tok):tG (.inr x) (.str x t)=true:=by simp[tG,Value.isStrOf]
def Pw (a b:Int):decide ((Sum.inl a:cZ)=Sum.inl b)=(a == b):=by
 lia
def Px (a b:Str):decide ((Sum.inr a:cZ)=Sum.inr b)=decide (a=b):=by
 simp
def Py (a:Int)(b:Str):decide ((Sum.inl a:cZ)=Sum.inr b)=false:=Y9
def Pz (a:Str)(b:Int):decide ((Sum.inr a:cZ)=Sum.inl b)=false:=Y9
def cn (prog:Program)(w:World):PySem.KeyKind prog w cZ where
 is:=tG
 hash:=Xn w
 inj:=λv a b ha hb=>by
  grind[cR]
 byValue:=λk v h=>by
  rcases cR h with⟨i,t,rfl,rfl⟩|⟨x,t,rfl,rfl⟩<;>rfl
 pyHash:=λhv h=>by
  rcases cR hv with⟨i,t,rfl,rfl⟩|⟨x,t,rfl,rfl⟩
  .exact wpAny_pyHash_int h
  .exact wpAny_pyHash_str h
 eqBool:=λhu hv h=>by
  rcases cR hu with⟨i,t,rfl,rfl⟩|⟨x,t,rfl,rfl⟩
  .rcases cR hv with⟨j,u,rfl,rfl⟩|⟨y,u,rfl,rfl⟩
   .rw[Pw]at h;exact wpAny_eqBool_int h
   .rw[Py]at h;exact SeqAt.EqAt.int_str i t y u _ _ _ _ h
  .rcases cR hv with⟨j,u,rfl,rfl⟩|⟨y,u,rfl,rfl⟩
   .rw[Pz]at h;exact SeqAt.EqAt.str_int x t j u _ _ _ _ h
   .rw[Px]at h;exact wpAny_eqBool_str h
 «strs»:=λk x t v h=>by
  rcases cR h with⟨i,u,rfl,e⟩|⟨y,u,rfl,e⟩
  .exact nomatch e
  .injection e with M _;subst M;cases v<;>rfl
def xD (prog:Program)(w:World)(i:Int)(t:Tok):(cn prog w).is (.inl i) (.int i t)=true:=DJ i t
def xE (prog:Program)(w:World)(x:Str)(t:Tok):(cn prog w).is (.inr x) (.str x t)=true:=DK x t
set_option genInjectivity true in
inductive V where
 |non|bl (b:Bool)|int (i:Int)|str (x:Str)|byt (b:Array UInt8)|flt (b:UInt64)|ref (a:Addr)|ty (n:String)
def aF:V->Value->Prop
 |.non,u=>u=Value.none
 |.bl b,u=>u=Value.bool b
 |.int i,u=>∃t,u=Value.int i t
 |.str x,u=>∃t,u=Value.str x t
 |.byt b,u=>∃t,u=Value.bytes b t
 |.flt b,u=>∃t,u=Value.float b t
 |.ref a,u=>u=Value.ref a
 |.ty n,u=>u=Value.type n
abbrev aL:List V->LU->Prop:=Paired aF
def aL.length (r:aL xs us):xs.length=us.length:=Paired.length r
theorem aL.get:∀ {xs:List V}{us:LU}{i:Nat}{x:V},aL xs us->xs[i]? = some x->∃u,us[i]? = some u/\aF x u
 |_,_,_,_,.nil,e=>by simp at e
 |_,_,0,_,.cons r _,e=>by simp_all
 |_,_,i+1,x,.cons _ t,e=>by
  obtain⟨u,h1,h2⟩:=aL.get t (by simpa using e);simp_all
theorem aL.set (r:aF x u):∀ {xs:List V}{us:LU}(i:Nat),aL xs us->aL (xs.set i x) (us.set i u)
 |_,_,_,.nil=>.nil
 |_,_,0,.cons _ t=>.cons r t
 |_,_,i+1,.cons q t=>.cons q (aL.set r i t)
theorem aL.append:∀ {xs ys:List V}{us ws:LU},aL xs us->aL ys ws->aL (xs++ys) (us++ws)
 |_,_,_,_,.nil,s=>s
 |_,_,_,_,.cons r t,s=>.cons r (aL.append t s)
theorem aL.take:∀ {xs:List V}{us:LU}(n:Nat),aL xs us->aL (xs.take n) (us.take n)
 |_,_,0,_=>.nil
 |_,_,_+1,.nil=>.nil
 |_,_,n+1,.cons r t=>.cons r (aL.take n t)
theorem aL.drop:∀ {xs:List V}{us:LU}(n:Nat),aL xs us->aL (xs.drop n) (us.drop n)
 |_,_,0,r=>r
 |_,_,_+1,.nil=>.nil
 |_,_,n+1,.cons _ t=>aL.drop n t
def kH:Option V->Option Value->Prop
 |some v,some u=>aF v u
 |none,none=>True
 |_,_=>False
def KV {κ:Type}:List (κ×V)->List (κ×Value)->Prop:=Paired λ(p:κ×V) (q:κ×Value)=>p.1=q.1/\aF p.2 q.2
noncomputable def kV:cZ->V
 |.inl i=>.int i
 |.inr x=>.str x
set_option genInjectivity true in
inductive HO where
  |lst (xs:List V)
  |tup (xs:List V)
  |dK (a8:List (cZ×V)) (ob:Obj)|dT (a8:List (List cZ×V))
  |set (S:Int->Bool) (n:Nat)
  |ins (C dx:Addr) (fs:List (Str×V))
  |own (x:Addr)
  |xd (fs:List (Str×V))
  |met (f x:Addr)
  |rng (lo hi:Int)
  |frz (o:Obj) (u:HO)
  |tbl (q:Str)
  |ext (φ:Heap->Prop)
abbrev Hp:=Addr->Option HO
noncomputable def upd (H:Hp)(a:Addr)(o:HO):Hp:=λb=>if b=a then some o else H b
def au:upd H a o a=some o:=by unfold upd;rw[if_pos rr]
theorem a5 (h:b≠a):upd H a o b=H b:=by unfold upd;rw[if_neg h]
def lN:upd (upd H a o) a u=upd H a u:=by
 grind[upd]
def Tw {H:Hp}{a b:Addr}{o u:HO}(h:H a=some o)(h':H b=some u)(d:o≠u):a≠b:=by
 lia
def aN {H:Hp}{a b:Addr}{o:HO}(h:H a=some o)(h':H b=none):a≠b:=by
 lia
section
variable (P:Program) (w:World)
def bf (H:Hp)(h:Heap)(a:Addr):HO->Prop
 |.lst xs=>xs.length<=sizeLine/\∃(its:LU)(n:Nat),aL xs its/\h.get? a=some { cls:=.type "list",data:=.seq its.toArray n }
 |.tup xs=>xs.length<=sizeLine/\∃its:LU,aL xs its/\IsTup h a its.toArray
 |.dK a8 ob=>h.get? a=some ob/\a8.length<=sizeLine/\(a == sysModules)=false/\∃vs,KV a8 vs/\h.DictOf (cn P w) a vs
 |.dT a8=>a8.length<=sizeLine/\(a == sysModules)=false/\∃xs:List (List cZ×Addr×Value),
   Paired (λ(p:List cZ×V) (q:List cZ×Addr×Value)=>p.1=q.1/\H q.2.1=some (.tup (p.1.map kV))/\aF p.2 q.2.2) a8 xs /\
   ∃o es U,h.get? a=some o/\o.ExactDict/\o.data=.dict es U/\es.toList=xs.map (entryOfKey (tupleKind (cn P w)))/\(xs.map (·.1)).Nodup
 |.set S n=>h.SetOf (intKind P w) a S n
 |.ins C dx fs=>H dx=some (.own a)/\fs.length<=1000/\dx≠a/\h.get? a=some (PySem.W.instObj C dx) /\
   ∃mA,h.Ns1 dx mA/\(∀f,kH (fs.lookup f) (mA f))/\PySem.Within mA (fs.map (·.1))
 |.own _=>∃o,h.get? a=some o
 |.xd fs=>∃mA,h.Ns1 a mA/\∀f,kH (fs.lookup f) (mA f)
 |.rng lo hi=>∃t u v,h.get? a=some { cls:=.type "range",data:=.fields #[.int lo t,.int hi u,.int 1 v] }
 |.frz o u=>h.get? a=some o/\bf H h a u
 |.tbl q=>∃ps:AV,h.get? a=some { cls:=.none,data:=.fields ps }/\TriplesOk ps.toList/\∀M O,codeAmong M ps.toList=some O->∃(c:Addr)(oc:Obj)(u:HO)(vs:AV)(t:Tok),O=.ref c/\H c=some (.frz oc u)/\oc.data=.fields vs/\vs[1]? = some (.str q t)
 |.met f x=>h.get? a=some (PySem.W.methodObj (.ref f) (.ref x))
 |.ext φ=>φ h/\(∃o,h.get? a=some o)/\∀h1 h2:Heap,φ h1->(∀o,h1.get? a=some o->h2.get? a=some o)->φ h2
def kI (H:Hp)(h:Heap):Prop:=∀a o,H a=some o->bf P w H h a o
end
section
variable {P:Program}{w:World}{H H':Hp}{h h':Heap}{a:Addr}{o:HO}
def bf.lt (x:bf P w H h a o):a<h.objs.size:=by
 cases o with
 |lst xs=>obtain⟨_,_,_,_,e⟩:=x;exact vX e
 |tup xs=>obtain⟨_,_,_,p⟩:=x;exact p.lt
 |dK a8 ob=>exact vX (And.left x)
 |dT a8=>obtain⟨_,_,_,_,o,_,_,e,_⟩:=x;exact vX e
 |set S n=>obtain⟨o,_,_,_,e,_⟩:=x;exact vX e
 |ins C dx fs=>obtain⟨_,_,_,e,_⟩:=x;exact vX e
 |own y=>obtain⟨_,e⟩:=x;exact vX e
 |xd fs=>obtain⟨_,⟨_,_,_,e,_⟩,_⟩:=x;exact vX e
 |rng lo hi=>obtain⟨_,_,_,e⟩:=x;exact vX e
 |frz ob u=>obtain⟨e,_⟩:=x;exact vX e
 |tbl q=>obtain⟨_,e,_⟩:=x;exact vX e
 |met f y=>exact vX (show h.get? a=some _ from x)
 |ext φ=>obtain⟨_,⟨_,e⟩,_⟩:=x;exact vX e
theorem Paired.mapP {α U:Type}{F G:α->U->Prop}:∀ {M:List α}{O:List U},Paired F M O->(∀a b,F a b->G a b)->Paired G M O
 |_,_,.nil,_=>.nil
 |_,_,.cons r t,f=>.cons (f _ _ r) (Paired.mapP t f)
def bf.stay (x:bf P w H h a o)(k:∀b u,(b=a\/H b=some (.own a))->h.get? b=some u->h'.get? b=some u)
  (ho:∀b,H b=some (.own a)->H' b=some (.own a)) (U:∀b xs,H b=some (.tup xs)->H' b=some (.tup xs)) (hf:∀b o u,H b=some (.frz o u)->H' b=some (.frz o u)):bf P w H' h' a o:=by
 induction o with
 |lst xs=>obtain⟨z,its,n,r,e⟩:=x;exact⟨z,its,n,r,k _ _ (.inl rr) e⟩
 |tup xs=>obtain⟨z,its,r,ob,e,c⟩:=x;exact⟨z,its,r,ob,k _ _ (.inl rr) e,c⟩
 |dK a8 i=>obtain⟨g,z,y,vs,r,ob,es,M,e,c⟩:=x;exact⟨k _ _ (.inl rr) g,z,y,vs,r,ob,es,M,k _ _ (.inl rr) e,c⟩
 |dT a8=>
  obtain⟨z,y,xs,r,ob,es,M,e,c⟩:=x;exact⟨z,y,xs,Paired.mapP r λp q z=>⟨z.1,U _ _ z.2.1,z.2.2⟩,ob,es,M,k _ _ (.inl rr) e,c⟩
 |set S n=>obtain⟨ob,es,M,t,e,c⟩:=x;exact⟨ob,es,M,t,k _ _ (.inl rr) e,c⟩
 |ins C dx fs=>
  obtain⟨d,z,ne,e,mA,⟨od,es,M,e2,c⟩,r⟩:=x;exact⟨ho _ d,z,ne,k _ _ (.inl rr) e,mA,⟨od,es,M,k _ _ (.inr d) e2,c⟩,r⟩
 |own y=>obtain⟨ob,e⟩:=x;exact⟨ob,k _ _ (.inl rr) e⟩
 |xd fs=>obtain⟨mA,⟨od,es,M,e,c⟩,r⟩:=x;exact⟨mA,⟨od,es,M,k _ _ (.inl rr) e,c⟩,r⟩
 |rng lo hi=>obtain⟨t,u,v,e⟩:=x;exact⟨t,u,v,k _ _ (.inl rr) e⟩
 |frz ob u j=>obtain⟨e,q⟩:=x;exact⟨k _ _ (.inl rr) e,j q⟩
 |tbl q=>obtain⟨ps,e,t,c⟩:=x;exact⟨ps,k a _ (.inl rr) e,t,λO l z=>let ⟨d,oc,u,vs,tk,m,s,A⟩:=c O l z;⟨d,oc,u,vs,tk,m,hf _ _ _ s,A⟩⟩
 |met f y=>
  have e:=x;exact k a _ (.inl rr) e
 |ext φ=>obtain⟨p,⟨o,e⟩,st⟩:=x;exact⟨st _ _ p λo q=>k _ _ (.inl rr) q,⟨o,k _ _ (.inl rr) e⟩,st⟩
def kI.lt (x:kI P w H h)(e:H a=some o):a<h.objs.size:=(x a o e).lt
def kI.fresh (x:kI P w H h)(e:h.objs.size<=a):H a=none:=by
 cases q:H a with
 |none=>rfl
 |some u=>exact absurd (vQ (x.lt q) e) (Nat.lt_irrefl _)
def kI.kept (x:kI P w H h)(k:∀b u,h.get? b=some u->h'.get? b=some u):kI P w H h':=λa o e=>
 (x a o e).stay (λb u _ q=>k b u q) (λ_ q=>q) (λ_ _ q=>q) λ_ _ _ q=>q
def kI.laid (x:kI P w H h)(k:∀b u,h.get? b=some u->h'.get? b=some u)(hp:h.objs.size<=a)(new:bf P w (upd H a o) h' a o):kI P w (upd H a o) h':=λb u e=>by
 have hn:=x.fresh hp;by_cases hb:b=a
 .simp_all[au]
 .rw[a5 hb]at e;exact(x b u e).stay (λc v _ q=>k c v q) (λc q=>by rw[a5 (aN q hn)];exact q) (λc xs q=>by rw[a5 (aN q hn)];exact q) λc o xs q=>by rw[a5 (aN q hn)];exact q
end
def Rd (H:Hp)(a:Addr)(u:HO):Prop:=H a=some u\/∃o,H a=some (.frz o u)
def Rd.ok (r:Rd H a u)(x:kI P w H h):bf P w H h a u:=by
 rcases r with r|⟨o,r⟩
 .exact x a u r
 .obtain⟨_,q⟩:=x a _ r;exact q
def Tz:Option HO->Prop
 |some (.lst _)=>True
 |some (.dK _ _)=>True
 |some (.dT _)=>True
 |some (.set _ _)=>True
 |some (.ins _ _ _)=>True
 |some (.ext _)=>True
 |_=>False
section
variable {P:Program}{w:World}{H:Hp}{h h':Heap}{x e:Addr}{o':HO}
def kI.write (ok:kI P w H h)(M:Tz (H x))(he:e=x\/H e=some (.own x))(k:∀b u,b≠e->h.get? b=some u->h'.get? b=some u)(a:∃u,h'.get? e=some u)
  (new:bf P w (upd H x o') h' x o'):kI P w (upd H x o') h':=λb u q=>by
 have O:∀c y,H c=some (.own y)->c≠x:=λc y r z=>by subst z;rw[r]at M;exact M
 have U:∀c xs,H c=some (.tup xs)->c≠x:=λc xs r z=>by subst z;rw[r]at M;exact M
 by_cases hb:b=x
 .simp_all[au]
 .rw[a5 hb]at q;by_cases d:b=e
  .have f:H b=some (.own x):=by
    lia
   rw[q]at f;cases f;obtain⟨v,hv⟩:=a;exact⟨v,by rw[d];exact hv⟩
  .refine(ok b u q).stay (λc v hc r=>k c v ?_ r) (λc r=>by rw[a5 (O c b r)];exact r) (λc xs r=>by rw[a5 (U c xs r)];exact r) λc o xs r=>by rw[a5 (λz=>by subst z;rw[r]at M;exact M)];exact r
   grind
end
structure Un (fs ex:List Addr)(H H':Hp)(h h':Heap):Prop where
 keep:∀b o,h.get? b=some o->H b=none->b∉fs->b∉ex->h'.get? b=some o
 slot:∀b o,h.get? b=some o->H b=none->b∈fs->b∉ex->∃sl,h'.get? b=some { o with slots:=sl }
 free:∀b o,h.get? b=some o->H b=none->b∉ex->H' b=none
 there:∀b o,h.get? b=some o->b∉ex->∃o',h'.get? b=some o'
 tups:∀b xs,H b=some (.tup xs)->H' b=some (.tup xs)
 frzs:∀b o u,H b=some (.frz o u)->H' b=some (.frz o u)
 tbls:∀b q,H b=some (.tbl q)->H' b=some (.tbl q)
section
variable {fs Yr ex ZS:List Addr}{H H1 H2:Hp}{h h1 h2 h':Heap}{a x e:Addr}{o:HO}
def Un.any (u:Un fs ex H H1 h h1)(q:h.get? b=some ob)(n:H b=none)(hx:b∉ex):∃sl,h1.get? b=some { ob with slots:=sl }:=by
 by_cases hb:b∈fs
 .exact u.slot b ob q n hb hx
 .exact⟨ob.slots,u.keep b ob q n hb hx⟩
def Un.trans (a:Un fs ex H H1 h h1)(b:Un fs ex H1 H2 h1 h2):Un fs ex H H2 h h2 where
 keep:=λc ob q n hc hx=>b.keep c ob (a.keep c ob q n hc hx) (a.free c ob q n hx) hc hx
 slot:=λc ob q n hc hx=>by
  obtain⟨sl,M⟩:=a.slot c ob q n hc hx;obtain⟨O,e2⟩:=b.slot c _ M (a.free c ob q n hx) hc hx;exact⟨O,e2⟩
 free:=λc ob q n hx=>by
  obtain⟨o',M⟩:=a.there c ob q hx;exact b.free c o' M (a.free c ob q n hx) hx
 there:=λc ob q hx=>by
  obtain⟨o',M⟩:=a.there c ob q hx;exact b.there c o' M hx
 tups:=λc xs q=>b.tups c xs (a.tups c xs q)
 frzs:=λc ob xs q=>b.frzs c ob xs (a.frzs c ob xs q)
 tbls:=λc ps q=>b.tbls c ps (a.tbls c ps q)
def Un.kept (k:∀b u,h.get? b=some u->h'.get? b=some u):Un fs ex H H h h':=
 ⟨λb ob q _ _ _=>k b ob q,λb ob q _ _ _=>⟨ob.slots,k b ob q⟩,λ_ _ _ n _=>n,λb ob q _=>⟨ob,k b ob q⟩,λ_ _ q=>q,λ_ _ _ q=>q,λ_ _ q=>q⟩
def Un.refl:Un fs ex H H h h:=Un.kept λ_ _ q=>q
def Un.laid (k:∀b u,h.get? b=some u->h'.get? b=some u)(hp:h.objs.size<=a)(hn:H a=none):Un fs ex H (upd H a o) h h' where
 keep:=λb u q _ _ _=>k b u q
 slot:=λb u q _ _ _=>⟨u.slots,k b u q⟩
 free:=λb u q n _=>by rw[a5 (vS (vQ (vX q) hp))];exact n
 there:=λb u q _=>⟨u,k b u q⟩
 tups:=λb xs q=>by rw[a5 (aN q hn)];exact q
 frzs:=λb u xs q=>by rw[a5 (aN q hn)];exact q
 tbls:=λb ps q=>by rw[a5 (aN q hn)];exact q
def Un.write (M:Tz (H x))(he:e=x\/H e=some (.own x))(k:∀b u,b≠e->h.get? b=some u->h'.get? b=some u)(O:∃u,h'.get? e=some u):Un fs ex H (upd H x o) h h':=by
 have hx:∀b,H b=none->b≠x:=λb n z=>by subst z;rw[n]at M;exact M
 have hb:∀b,H b=none->b≠e:=λb n z=>by
  simp_all
 have hm:∀b u,H b=some u->¬Tz (some u)->b≠x:=λb u q nm z=>by simp_all
 refine⟨λb u q n _ _=>k b u (hb b n) q,λb u q n _ _=>⟨u.slots,k b u (hb b n) q⟩,λb u q n _=>by rw[a5 (hx b n)];exact n,λb u q _=>?_,
  λb xs q=>by rw[a5 (hm b _ q λz=>z)];exact q,λb u xs q=>by rw[a5 (hm b _ q λz=>z)];exact q,λb ps q=>by rw[a5 (hm b _ q λz=>z)];exact q⟩
 grind
end
noncomputable def Z5 (h:Heap)(H:Hp):List Addr:=(List.range h.objs.size).filter λa=>(H a).isSome
def xF (h:Heap)(H:Hp):Heap:=PySem.W.hideAll h (Z5 h H)
def DM (h:Heap)(H:Hp):(xF h H).objs.size=h.objs.size:=PySem.W.hideAll_size _ _
theorem pL (e:h.get? b=some o)(n:H b=none):(xF h H).get? b=some o:=
 PySem.W.hideAll_get _ e λhm=>by
  have q:=(vN hm).2;simp_all
def Lu (e:(xF h H).get? b=some o):h.get? b=some o/\H b=none:=by
 have M:=PySem.W.of_hideAll _ e;refine⟨M,?_⟩;cases q:H b with
 |none=>rfl
 |some x=>
  simp_all[Z5,vX,xF,PySem.W.hideAll_none]
noncomputable def Lv (g h:Heap)(L:Addr):AO:=(List.range h.objs.size).filterMap λa=>if a=L\/(g.get? a).isSome=true then none else (h.get? a).map λo=>(a,o)
def aj (g h:Heap)(L d:Addr):AO:=(Lv g h L).filter λp=>decide (p.1≠d)
structure Mod (K:Frag)(mg:Str->Option Value)(base:Heap):Prop where
 kin:K.In base
 glob:base.Ns mainGlobals mg
 blt:∃mb,base.Ns builtinsNs mb/\∀x:Str,x ≠ "__name__"->mb x=bootBuiltins x
 nolimit:base.NoLimit
 bmain:∃bm ob,mg "__builtins__" = some (.ref bm)/\bm≠builtinsNs/\base.get? bm=some ob/\ob.cls=.type "module"/\ob.dict=some builtinsNs/\ob.data=.plain
structure Cx where
 prog:Program
 w:World
 K:Frag
 mg:Str->Option Value
 base:Heap
 A:Around
 N:List Str
 s₀:Shared
 H₀:Hp
 env:Env
 outer:List Env
 stack:List Env
 ex:List Addr
 fn:Str->Bool
 calm:Bool
 pn:List (Addr×Obj)
 xe:Value->Shared->Prop
noncomputable def FJ (l:List Env):List Addr:=l.filterMap (·.frame)
abbrev Cx.fs (X:Cx):List Addr:=FJ X.outer
def Le (sc:Scope)(x:Str):Prop:=sc.names.lookup x=some .local\/sc.names.lookup x=some .cell\/sc.names.lookup x=some .free
def Lf (sc:Scope)(x:Str):Prop:=sc.names.lookup x=some .local\/sc.names.lookup x=some .cell
def Xo (env:Env)(h:Heap)(m:SV)(x:Str)(u:Value):Prop:=
 (env.kindOf x=some .local/\m x=some u)\/((env.kindOf x=some .cell\/env.kindOf x=some .free)/\∃c,env.cells.lookup x=some c/\h.IsCell c (some u))
abbrev wq {α:Type}(X:Cx):Sem α->(α->Shared->Prop)->(Value->Shared->Prop)->Shared->Prop:=wpAny (model X.prog X.w) X.A
structure Cx.Ok (X:Cx):Prop where
 mod:Mod X.K X.mg X.base
 kind:X.env.scope.kind=.function
 glob:X.env.globals=mainGlobals
 blt:X.env.builtins=builtinsNs
 above:X.s₀.z<=X.env.locals
 inj:∀x y c,X.env.cells.lookup x=some c->X.env.cells.lookup y=some c->x=y
 has:∀x,(X.env.kindOf x=some .cell\/X.env.kindOf x=some .free)->∃c,X.env.cells.lookup x=some c
 cab:∀x c,X.fn x=true->X.env.cells.lookup x=some c->X.s₀.z<=c
 hd:X.calm=true->X.A.handled=none
 frames:X.A.frames=some X.stack
 stk:X.stack=X.outer\/(X.stack=X.env::X.outer/\X.env.frame=some X.env.locals)
 exf:∀b∈X.ex,b≠X.env.locals/\∀x c,X.env.cells.lookup x=some c->c≠b
 bs:∀b o,X.base.get? b=some o->X.s₀.heap.get? b=some o/\X.H₀ b=none
 bsz:X.base.objs.size<=X.s₀.z
 noex:∀b o,X.base.get? b=some o->b∉X.ex
 exfs:∀b∈X.ex,b∉X.fs
 funs:X.s₀.heap.FunFrames X.base X.outer
 frf:∀b∈X.fs,X.H₀ b=none
structure Inv (X:Cx)(af:List (Addr×Obj))(σ:List (Option V))(H:Hp)(s:Shared):Prop where
 ok:X.Ok
 os:s.os=X.s₀.os
 bare:AllBare s.gens
 base:Un X.fs X.ex X.H₀ H X.s₀.heap s.heap
 loc:∃m,s.heap.Ns X.env.locals m/\∀(i:Nat)(x:Str)(v:V),X.N[i]? = some x->σ[i]? = some (some v)->Le X.env.scope x->∃u,aF v u/\Xo X.env s.heap m x u
 cell:∀x c,X.env.cells.lookup x=some c->∃v,s.heap.IsCell c v
 free:H X.env.locals=none
 freeC:∀x c,X.env.cells.lookup x=some c->H c=none
 pin:∀p∈X.pn++af,s.heap.get? p.1=some p.2/\H p.1=none/\p.1≠X.env.locals/\p.1∉X.fs/\∀v,p.2.data≠.cell v
 hok:kI X.prog X.w H s.heap
 len:σ.length=X.N.length
section
variable {X:Cx}{af:AO}{σ:List (Option V)}{H H':Hp}{s:Shared}{h':Heap}
def Cx.Ok.nofr (ok:X.Ok)(e:X.base.get? b=some o):b∉X.fs:=λhb=>by
 have:=(ok.funs.mem hb).1;simp_all
def Inv.bs (I:Inv X af σ H s):∀b o,X.base.get? b=some o->s.heap.get? b=some o/\H b=none:=λb o e=>
 ⟨I.base.keep b o (I.ok.bs b o e).1 (I.ok.bs b o e).2 (I.ok.nofr e) (I.ok.noex b o e),I.base.free b o (I.ok.bs b o e).1 (I.ok.bs b o e).2 (I.ok.noex b o e)⟩
def Inv.bk (I:Inv X af σ H s):∀b o,X.base.get? b=some o->s.heap.get? b=some o:=λb o e=>(I.bs b o e).1
def Inv.mod (I:Inv X af σ H s):Mod X.K X.mg X.base:=I.ok.mod
def Inv.kIn (I:Inv X af σ H s):X.K.In s.heap:=I.ok.mod.kin.keeps I.bk
def Inv.nolimit (I:Inv X af σ H s):s.heap.NoLimit:=I.ok.mod.nolimit.keeps I.bk
def Inv.lt (I:Inv X af σ H s):X.env.locals<s.z:=let ⟨_,hn,_⟩:=I.loc;hn.lt
def Inv.sz (I:Inv X af σ H s):X.s₀.z<=s.z:=vR I.ok.above (le_of_lt I.lt)
def Inv.nofs (I:Inv X af σ H s)(h:s.z<=a):a∉X.fs:=λhb=>by
 obtain⟨_,o,ho,_⟩:=I.ok.funs.mem hb;exact absurd (vQ (vX ho) (vR I.sz h)) (Nat.lt_irrefl _)
def Inv.cne (I:Inv X af σ H s):∀x c,X.env.cells.lookup x=some c->c≠X.env.locals:=λx c e z=>by
 obtain⟨v,o,ho,hd⟩:=I.cell x c e;obtain⟨m,⟨o',es,U,M,O,_⟩,_⟩:=I.loc;simp_all
def Inv.funs (I:Inv X af σ H s):s.heap.FunFrames X.base X.outer:=by
 have all:∀(l:List _),(∀b∈FJ l,b∈X.fs)->X.s₀.heap.FunFrames X.base l->s.heap.FunFrames X.base l:=by
  intro l;induction l with
  |nil=>intro _ _;trivial
  |cons env r O=>
   intro hs hl;obtain⟨hk,⟨L,o,hf,hn,ho,hd⟩,U⟩:=hl;have M:=hs L (by simp_all[FJ]);obtain⟨sl,e⟩:=I.base.slot L o ho (I.ok.frf L M) M λz=>I.ok.exfs L z M;exact⟨hk,⟨L,_,hf,hn,e,hd⟩,O (λb hb=>hs b (by simp_all[FJ])) U⟩
 exact all _ (λ_ hb=>hb) I.ok.funs
def Inv.stack (I:Inv X af σ H s):s.heap.FunFrames X.base X.stack:=by
 rcases I.ok.stk with e|⟨e,hf⟩
 .rw[e];exact I.funs
 .rw[e];obtain⟨m,hn,_⟩:=I.loc;refine .cons (by rw[I.ok.kind];decide) hf hn ?_ I.funs;exact Heap.get?_none_of_le (vR I.ok.bsz I.ok.above)
def Inv.stkSub (I:Inv X af σ H s):∀b∈FJ X.stack,b∈X.env.locals::X.fs:=λb hb=>by
 rcases I.ok.stk with e|⟨e,hf⟩
 .simp_all
 simp_all[FJ]
def Inv.stkFree (I:Inv X af σ H s):∀b∈FJ X.stack,H b=none:=λb hb=>by
 rcases vP (I.stkSub b hb)with e|hb
 .rw[e];exact I.free
 .obtain⟨_,o,ho,_⟩:=I.ok.funs.mem hb;exact I.base.free b o ho (I.ok.frf b hb) λz=>I.ok.exfs b z hb
def Inv.step {g':Array GenState}{t':Nat}{d':Drawn}{ch:List Addr}(I:Inv X af σ H s)
  (M:∀b∈ch,(b∈X.ex\/X.s₀.z<=b)/\b≠X.env.locals/\(∀x c,X.env.cells.lookup x=some c->c≠b)/\∀p∈X.pn++af,p.1≠b)
  (keep:∀b o,b≠X.env.locals->b∉X.fs->b∉ch->s.heap.get? b=some o->H b=none->h'.get? b=some o)
  (slot:∀b o,b≠X.env.locals->b∈X.fs->b∉ch->s.heap.get? b=some o->H b=none->∃sl,h'.get? b=some { o with slots:=sl }) (free:∀b o,b∉ch->s.heap.get? b=some o->H b=none->H' b=none)
  (there:∀b o,b∉ch->s.heap.get? b=some o->∃o',h'.get? b=some o')
  (tups:∀b xs,H b=some (.tup xs)->H' b=some (.tup xs)) (frzs:∀b o u,H b=some (.frz o u)->H' b=some (.frz o u)) (tbls:∀b q,H b=some (.tbl q)->H' b=some (.tbl q))
  (ns:∀m,s.heap.Ns X.env.locals m->h'.Ns X.env.locals m) (hok:kI X.prog X.w H' h') (t:AllBare g'):
  Inv X af σ H' { s with heap:=h',gens:=g',drawn:=d',toks:=t' }:=by
 have h:∀b o,X.s₀.heap.get? b=some o->b≠X.env.locals:=λb o e=>vS (vQ (vX e) I.ok.above);have f:∀b o,X.s₀.heap.get? b=some o->b∉X.ex->b∉ch:=λb o e hx hb=>by
  rcases (M b hb).1 with z|z
  .exact hx z
  .exact absurd (vQ (vX e) z) (Nat.lt_irrefl _)
 have O:∀x c,X.env.cells.lookup x=some c->∀v,s.heap.IsCell c v->h'.IsCell c v:=λx c e v ⟨o,ho,hd⟩=>by
  have U:c∉ch:=λz=>(M c z).2.2.1 x c e rr;by_cases hc:c∈X.fs
  .obtain⟨sl,q⟩:=slot c o (I.cne x c e) hc U ho (I.freeC x c e);exact⟨_,q,hd⟩
  .exact⟨o,keep c o (I.cne x c e) hc U ho (I.freeC x c e),hd⟩
 refine⟨I.ok,I.os,t,⟨λb o e n hb hx=>?_,λb o e n hb hx=>?_,λb o e n hx=>?_,λb o e hx=>?_,λb xs e=>tups b xs (I.base.tups b xs e),λb o xs e=>frzs b o xs (I.base.frzs b o xs e),λb ps e=>?_⟩,?_,λx c e=>?_,?_,λx c e=>?_,λp hp=>?_,hok,I.len⟩
 .exact keep b o (h b o e) hb (f b o e hx) (I.base.keep b o e n hb hx) (I.base.free b o e n hx)
 .obtain⟨sl,a⟩:=I.base.slot b o e n hb hx;obtain⟨g,e2⟩:=slot b _ (h b o e) hb (f b o e hx) a (I.base.free b o e n hx);exact⟨g,e2⟩
 .obtain⟨o',a⟩:=I.base.there b o e hx;exact free b o' (f b o e hx) a (I.base.free b o e n hx)
 .obtain⟨o',a⟩:=I.base.there b o e hx;exact there b o' (f b o e hx) a
 .exact tbls b _ (I.base.tbls b ps e)
 .obtain⟨m,hn,hl⟩:=I.loc;refine⟨m,ns m hn,λi x v a e2 y=>?_⟩;obtain⟨u,r,l⟩:=hl i x v a e2 y;refine⟨u,r,?_⟩;rcases l with l|⟨k,c,e,z⟩
  .exact .inl l
  .exact .inr ⟨k,c,e,O x c e _ z⟩
 .obtain⟨v,z⟩:=I.cell x c e;exact⟨v,O x c e v z⟩
 .obtain⟨m,⟨o,_,_,ho,_⟩,_⟩:=I.loc;exact free _ o (λz=>(M _ z).2.1 rr) ho I.free
 .obtain⟨v,o,ho,hd⟩:=I.cell x c e;exact free c o (λz=>(M c z).2.2.1 x c e rr) ho (I.freeC x c e)
 .obtain⟨e,n,ne,j,d⟩:=I.pin p hp;have U:p.1∉ch:=λz=>(M p.1 z).2.2.2 p hp rr;exact⟨keep p.1 p.2 ne j U e n,free p.1 p.2 U e n,ne,j,d⟩
def Inv.un {t':Nat}(I:Inv X af σ H s)(u:Un X.fs [] H H' s.heap h')(hok:kI X.prog X.w H' h'):Inv X af σ H' { s with heap:=h',toks:=t' }:=by
 obtain⟨m,⟨o,es,d,ho,r⟩,_⟩:=id I.loc;obtain⟨sl,a⟩:=u.any ho I.free H9;exact I.step (ch:=[]) (λ_ z=>nomatch z) (λb o _ hb _ e n=>u.keep b o e n hb H9) (λb o _ hb _ e n=>u.slot b o e n hb H9) (λb o _ e n=>u.free b o e n H9) (λb o _ e=>u.there b o e H9) u.tups u.frzs u.tbls (λf hm=>by
  obtain⟨o',O,U,M,c⟩:=hm;rw[ho]at M;cases M;exact⟨_,O,U,a,c⟩) hok I.bare
def Inv.call {g':Array GenState}{t':Nat}{d':Drawn}{ch:List Addr}(I:Inv X af σ H s)(u:Un (FJ X.stack) ch H H' s.heap h')(hok:kI X.prog X.w H' h')(d:AllBare g')
  (M:∀b∈ch,(b∈X.ex\/X.s₀.z<=b)/\b≠X.env.locals/\(∀x c,X.env.cells.lookup x=some c->c≠b)/\∀p∈X.pn++af,p.1≠b):
  Inv X af σ H' { s with heap:=h',gens:=g',drawn:=d',toks:=t' }:=by
 obtain⟨m,⟨o,es,h,ho,r⟩,_⟩:=id I.loc;obtain⟨sl,U⟩:=u.any ho I.free λz=>(M _ z).2.1 rr;exact I.step M (λb o U hb hc e n=>u.keep b o e n (λz=>(vP (I.stkSub b z)).elim U hb) hc) (λb o _ _ hc e n=>u.any e n hc) (λb o hc e n=>u.free b o e n hc) (λb o hc e=>u.there b o e hc) u.tups u.frzs u.tbls (λi hm=>by
  obtain⟨o',f,a,O,g⟩:=hm;rw[ho]at O;cases O;exact⟨_,f,a,U,g⟩) hok d
def Inv.turned {t':Nat}{it:Addr}(I:Inv X af σ H s)(k:∀b o,b≠it->s.heap.get? b=some o->h'.get? b=some o)(hn:H it=none)(M:it≠X.env.locals)
  (h1:it∈X.ex\/X.s₀.z<=it) (h2:∀x c,X.env.cells.lookup x=some c->c≠it) (h3:∀p∈X.pn++af,p.1≠it):Inv X af σ H { s with heap:=h',toks:=t' }:=by
 refine I.step (ch:=[it]) (λb hb=>?_) (λb o _ _ hc e _=>k b o (λz=>hc (by simp[z])) e) (λb o _ _ hc e _=>⟨o.slots,k b o (λz=>hc (by simp[z])) e⟩) (λ_ _ _ _ n=>n)
  (λb o hc e=>⟨o,k b o (λz=>hc (by simp[z])) e⟩) (λ_ _ e=>e) (λ_ _ _ e=>e) (λ_ _ e=>e) (λm hm=>?_) (λb u e=>?_) I.bare
 .have e:=by simpa using hb
  subst e;exact⟨h1,M,h2,h3⟩
 .obtain⟨o,es,O,ho,r⟩:=hm;exact⟨o,es,O,k _ o (Ne.symm M) ho,r⟩
 .refine(I.hok b u e).stay (λc v hc q=>k c v ?_ q) (λ_ q=>q) (λ_ _ q=>q) λ_ _ _ q=>q;lia
def Inv.tok (I:Inv X af σ H s)(t:Nat):Inv X af σ H { s with toks:=t }:=I.un Un.refl I.hok
def Inv.kept (I:Inv X af σ H s)(k:∀b u,s.heap.get? b=some u->h'.get? b=some u):Inv X af σ H { s with heap:=h',toks:=t' }:=I.un (Un.kept k) (I.hok.kept k)
def Inv.laid (I:Inv X af σ H s)(k:∀b u,s.heap.get? b=some u->h'.get? b=some u)(hp:s.z<=a)(new:bf X.prog X.w (upd H a o) h' a o):
  Inv X af σ (upd H a o) { s with heap:=h',toks:=t' }:=I.un (Un.laid k hp (I.hok.fresh hp)) (I.hok.laid k hp new)
def Inv.write (I:Inv X af σ H s)(O:Tz (H x))(he:e=x\/H e=some (.own x))(k:∀b u,b≠e->s.heap.get? b=some u->h'.get? b=some u)(M:∃u,h'.get? e=some u)
  (new:bf X.prog X.w (upd H x o) h' x o):Inv X af σ (upd H x o) { s with heap:=h',toks:=t' }:=I.un (Un.write O he k M) (I.hok.write O he k M new)
def Inv.pins_of (I:Inv X af σ H s)(h:∀p∈M,s.heap.get? p.1=some p.2/\H p.1=none/\p.1≠X.env.locals/\p.1∉X.fs/\∀v,p.2.data≠.cell v):Inv X M σ H s:=
 ⟨I.ok,I.os,I.bare,I.base,I.loc,I.cell,I.free,I.freeC,λp hp=>(mem_append.mp hp).elim (λz=>I.pin p (mem_append_left _ z)) (h p),I.hok,I.len⟩
def xG {N:LS}(M:N.Nodup){i j:Nat}{x:Str}(a:N[i]? = some x)(b:N[j]? = some x):i=j:=by
 obtain⟨h1,O⟩:=vV a;obtain⟨h2,e2⟩:=vV b;exact(List.getElem_inj M).mp (O.trans e2.symm)
def tH {M:Model}{A:Around}{E:QV}{i:Nat}{x:Str}{v:V}{u:Value}{Q:Unit->Shared->Prop}(I:Inv X af σ H s)(G:X.N.Nodup)(hi:X.N[i]? = some x)(hx:Lf X.env.scope x)(r:aF v u)
  (h:∀s',Inv X af (σ.set i (some v)) H s'->(∃a,Heap.SameBut a s.heap s'.heap/\(a=X.env.locals\/X.env.cells.lookup x=some a))->Q () s') (hf:X.fn x=true\/X.env.scope.names.lookup x=some .local:=by first|exact .inl rr|exact .inr rr|assumption):wpAny M A (storeName X.env x u) Q E s:=by
 obtain⟨m,hn,hl⟩:=id I.loc;have L:(X.env.scope.kind == .class || (X.env.scope.kind == .module && X.env.locals != X.env.globals))=false:=by rw[I.ok.kind];rfl
 have J:i<σ.length:=by rw[I.len];exact(vV hi).1
 have cne:=I.cne;have O:∀ {a:Addr}{h':Heap},(∃o,s.heap.get? a=some o/\H a=none)->Heap.SameBut a s.heap h'->kI X.prog X.w H h':=λ{a h'} ha hs b ob e=>by
  obtain⟨_,_,ZV⟩:=ha;refine(I.hok b ob e).stay (λc l hc q=>(hs.2 c ?_).trans q) (λ_ q=>q) (λ_ _ q=>q) λ_ _ _ q=>q;lia
 rcases hx with hk|hk
 .refine wpAny_storeName_local hk hn (λh' P hs=>?_) L;obtain⟨R,_,_,S,_⟩:=id hn;refine h _ ⟨I.ok,I.os,I.bare,⟨λb o e n hb hx=>?_,λb o e n hb hx=>?_,I.base.free,λb o e hx=>?_,I.base.tups,I.base.frzs,I.base.tbls⟩,⟨_,P,λj y t U e2 B=>?_⟩,λy c e=>?_,I.free,I.freeC,λp hp=>?_,O ⟨R,S,I.free⟩ hs,by simpa using I.len⟩ ⟨_,hs,.inl rr⟩
  .exact(hs.2 b (vS (vQ (vX e) I.ok.above))).trans (I.base.keep b o e n hb hx)
  .obtain⟨sl,U⟩:=I.base.slot b o e n hb hx;exact⟨sl,(hs.2 b (vS (vQ (vX e) I.ok.above))).trans U⟩
  .obtain⟨o',U⟩:=I.base.there b o e hx;exact⟨o',(hs.2 b (vS (vQ (vX e) I.ok.above))).trans U⟩
  .by_cases hj:j=i
   .subst hj;rw[hi]at U;cases U;rw[getElem?_set_self J]at e2;cases e2
    exact⟨u,r,.inl ⟨hk,H9⟩⟩
   .rw[vB (Ne.symm hj)]at e2;obtain⟨u',C,q⟩:=hl j y t U e2 B;refine⟨u',C,?_⟩;rcases q with⟨k,e⟩|⟨k,c,e,z⟩
    .refine .inl ⟨k,?_⟩;have:y≠x:=λe=>hj (xG G U (e ▸ hi));simp[this,e]
    .exact .inr ⟨k,c,e,z.sameBut hs (cne y c e)⟩
  .obtain⟨l,z⟩:=I.cell y c e;exact⟨l,z.sameBut hs (cne y c e)⟩
  .obtain⟨e,n,ne,D,d⟩:=I.pin p hp;exact⟨(hs.2 p.1 ne).trans e,n,ne,D,d⟩
 .have F:X.fn x=true:=by
   simp_all<;>lia
  obtain⟨c,hc⟩:=I.ok.has x (.inl hk);obtain⟨l,z⟩:=I.cell x c hc;refine wpAny_storeName_cell I.ok.kind hk hc z (λh' K hs=>?_);obtain⟨oc,T,W⟩:=id z;refine h { s with heap:=h' } ⟨I.ok,I.os,I.bare,⟨λb o e n hb hx=>?_,λb o e n hb hx=>?_,I.base.free,λb o e hx=>?_,I.base.tups,I.base.frzs,I.base.tbls⟩,⟨m,hn.sameBut hs (Ne.symm (cne x c hc)),λj y t U e2 B=>?_⟩,λy g e=>?_,I.free,I.freeC,λp hp=>?_,O ⟨oc,T,I.freeC x c hc⟩ hs,by simpa using I.len⟩ ⟨c,hs,.inr hc⟩
  .exact(hs.2 b (vS (vQ (vX e) (I.ok.cab x c F hc)))).trans (I.base.keep b o e n hb hx)
  .obtain⟨sl,U⟩:=I.base.slot b o e n hb hx;exact⟨sl,(hs.2 b (vS (vQ (vX e) (I.ok.cab x c F hc)))).trans U⟩
  .obtain⟨o',U⟩:=I.base.there b o e hx;exact⟨o',(hs.2 b (vS (vQ (vX e) (I.ok.cab x c F hc)))).trans U⟩
  .by_cases hj:j=i
   .subst hj;rw[hi]at U;cases U;rw[getElem?_set_self J]at e2;cases e2
    exact⟨u,r,.inr ⟨.inl hk,c,hc,K⟩⟩
   .rw[vB (Ne.symm hj)]at e2;obtain⟨u',C,q⟩:=hl j y t U e2 B;refine⟨u',C,?_⟩;rcases q with q|⟨k,g,e,Y⟩
    .exact .inl q
    .refine .inr ⟨k,g,e,Y.sameBut hs ?_⟩;rintro rfl;exact hj (xG G U (I.ok.inj _ _ _ e hc ▸ hi))
  .by_cases f:g=c
   .subst f;exact⟨_,K⟩
   .obtain⟨Z,z2⟩:=I.cell y g e;exact⟨Z,z2.sameBut hs f⟩
  .obtain⟨e,n,ne,D,d⟩:=I.pin p hp;refine⟨(hs.2 p.1 ?_).trans e,n,ne,D,d⟩;grind
def xH {M:Model}{A:Around}{E:QV}{i:Nat}{x:Str}{v:V}{u:Value}{Q:Unit->Shared->Prop}(I:Inv X af σ H s)(O:X.N.Nodup)(hi:X.N[i]? = some x)(hx:Lf X.env.scope x)(r:aF v u)
  (h:∀s',Inv X af (σ.set i (some v)) H s'->Q () s') (hf:X.fn x=true\/X.env.scope.names.lookup x=some .local:=by first|exact .inl rr|exact .inr rr|assumption):wpAny M A (storeName X.env x u) Q E s:=
 tH I O hi hx r (λs' U _=>h s' U) hf
def Inv.call' (I:Inv X af σ H s)(ho:s'.os=s.os)(u:Un (FJ X.stack) ch H H' s.heap s'.heap)(hok:kI X.prog X.w H' s'.heap)(O:AllBare s'.gens)
  (M:∀b∈ch,(b∈X.ex\/X.s₀.z<=b)/\b≠X.env.locals/\(∀x c,X.env.cells.lookup x=some c->c≠b)/\∀p∈X.pn++af,p.1≠b):Inv X af σ H' s':=by
 obtain⟨h',g',d',t',o'⟩:=s';have e:=ho;subst e;exact I.call u hok O M
end
abbrev XK:=Value->Option Addr->Hp->Prop
abbrev St:=List (Option V)
abbrev VK:=V->Hp->Prop
abbrev TE:=St->Hp->VK->Prop
abbrev TT:=St->Hp->(Bool->Hp->Prop)->Prop
abbrev TA:=St->Hp->(List V->Hp->Prop)->Prop
structure Ends where
 nx:St->Hp->Prop
 rt:VK
 bk:St->Hp->Prop:=λ_ _=>False
 ct:St->Hp->Prop:=λ_ _=>False
abbrev TS:=Ends->St->Hp->Prop
def EP (X:Cx)(af:AO)(σ:St)(Q:VK)(u:Value)(s':Shared):Prop:=∃v H',Inv X af σ H' s'/\aF v u/\Q v H'
def TP (X:Cx)(af:AO)(σ:St)(Q:Bool->Hp->Prop)(b:Bool)(s':Shared):Prop:=∃H',Inv X af σ H' s'/\Q b H'
def AP (X:Cx)(af:AO)(σ:St)(Q:List V->Hp->Prop)(us:LU)(s':Shared):Prop:=∃vs H',Inv X af σ H' s'/\aL vs us/\Q vs H'
def SP (X:Cx)(af:AO)(D:Ends)(f:Flow)(s':Shared):Prop:=
 match f with
 |.next=>∃M H',Inv X af M H' s'/\D.nx M H'
 |.brk=>∃M H',Inv X af M H' s'/\D.bk M H'
 |.cont=>∃M H',Inv X af M H' s'/\D.ct M H'
 |.ret u=>∃v M H',Inv X af M H' s'/\aF v u/\D.rt v H'
def PE (X:Cx)(e:Expr)(t:TE):Prop:=
 ∀(af:AO)(s:Shared)(σ:St)(H:Hp)(Q:VK),Inv X af σ H s->t σ H Q->wq X (eval e X.env) (EP X af σ Q) X.xe s
def PT (X:Cx)(e:Expr)(t:TT):Prop:=
 ∀(af:AO)(s:Shared)(σ:St)(H:Hp)(Q:Bool->Hp->Prop),Inv X af σ H s->t σ H Q->wq X (isTrue e X.env (eval e X.env)) (TP X af σ Q) X.xe s
def PW (X:Cx)(e:Expr)(t:TT):Prop:=
 ∀(M:Sem Value)(af:AO)(s:Shared)(σ:St)(H:Hp)(Q:Bool->Hp->Prop),Inv X af σ H s->t σ H Q->wq X (isTrue e X.env M) (TP X af σ Q) X.xe s
def PW.pt (h:PW X e t):PT X e t:=h _
def PA (X:Cx)(es:QD)(t:TA):Prop:=
 ∀(M:Pos)(af:AO)(s:Shared)(σ:St)(H:Hp)(Q:List V->Hp->Prop),Inv X af σ H s->t σ H Q->wq X (spliced (backTo M (starEach es X.env))) (AP X af σ Q) X.xe s
def PS (X:Cx)(st:Stmt)(t:TS):Prop:=
 ∀(af:AO)(s:Shared)(σ:St)(H:Hp)(D:Ends),Inv X af σ H s->t D σ H->wq X (exec st X.env) (SP X af D) X.xe s
def tI (X:Cx)(st:List Stmt)(t:TS):Prop:=
 ∀(af:AO)(s:Shared)(σ:St)(H:Hp)(D:Ends),Inv X af σ H s->t D σ H->wq X (execs st X.env) (SP X af D) X.xe s
def bI {α:Type}{t:Sem α}{Q O:α->Shared->Prop}{M:Model}{A:Around}{E:QV}{s:Shared}(h:wpAny M A t Q E s)(U:∀a s,Q a s->O a s):wpAny M A t O E s:=wpAny_mono h U λ_ _ x=>x
section
variable {X:Cx}
def FK (i:Nat):TE:=λσ H Q=>∃v,σ[i]? = some (some v)/\Q v H
def tC (v:V):TE:=λ_ H Q=>Q v H
def jo (U:X.N[i]? = some x)(hv:Le X.env.scope x)(hd:(x == ("__debug__" : Str))=false:=by decide)(O:(x == ("__classdict__" : Str))=false:=by decide):PE X (.Name x pos) (FK i):=by
 intro af s σ H Q I h;obtain⟨v,e,h⟩:=h;obtain⟨m,hn,hl⟩:=I.loc;obtain⟨u,r,l⟩:=hl i x v U e hv;have dI:EP X _ σ Q u s:=⟨v,H,I,r,h⟩;rcases l with⟨hk,hm⟩|⟨hk,c,hc,M⟩
 .exact wpAny_Name (wpAny_loadName_local I.ok.kind hk hn hm dI) hd
 .rcases hk with hk|hk
  .exact wpAny_Name (wpAny_loadName_cell I.ok.kind hk hc M dI) hd
  .exact wpAny_Name (wpAny_loadName_free I.ok.kind hk hc M dI O) hd
def P0 {i j M}:PE X (.Constant (.int i) j M) (tC (.int i)):=λ_ _ _ H _ I h=>wpAny_Constant_int ⟨.int i,H,I.tok _,⟨_,rr⟩,h⟩
def T1 {b j M}:PE X (.Constant (.bool b) j M) (tC (.bl b)):=λ_ _ _ H _ I h=>Constant_bool ⟨.bl b,H,I,rr,h⟩
def P1 {j M}:PE X (.Constant .none j M) (tC .non):=λ_ _ _ H _ I h=>Constant_none ⟨.non,H,I,rr,h⟩
def P2 {x j M}:PE X (.Constant (.str x) j M) (tC (.str x)):=λ_ _ _ H _ I h=>Calls.Constant_str ⟨.str x,H,I.tok _,⟨_,rr⟩,h⟩
def Gl (X:Cx)(x:Str):Prop:=X.env.kindOf x=some .globalImplicit
def vh {E:QV}{af:AO}{s:Shared}{σ:St}{H:Hp}{x:Str}{u:Value}{M:Pos}{Q:QV}(I:Inv X af σ H s)(O:Gl X x)(hm:X.mg x=some u)(h:Q u s)
  (hd:(x == ("__debug__" : Str))=false:=by decide):wq X (eval (.Name x M) X.env) Q E s:=
 Calls.Name_function_global I.ok.kind O (Calls.loadGlobal_global (by rw[I.ok.glob];exact I.mod.glob.keeps I.bk) hm h) hd
def fz {E:QV}{af:AO}{s:Shared}{σ:St}{H:Hp}{x:Str}{u:Value}{M:Pos}{Q:QV}(I:Inv X af σ H s)(O:Gl X x)(hm:X.mg x=none)(hv:bootBuiltins x=some u)(h:Q u s)
  (hn:x ≠ "__name__":=by decide) (hd:(x == ("__debug__" : Str))=false:=by decide):wq X (eval (.Name x M) X.env) Q E s:=by
 obtain⟨mb,h1,h2⟩:=I.mod.blt;exact Calls.Name_function_global I.ok.kind O (Calls.loadGlobal_builtin (by rw[I.ok.glob];exact I.mod.glob.keeps I.bk) hm (by rw[I.ok.blt];exact h1.keeps I.bk) ((h2 x hn).trans hv) h) hd
def p4 (M:Gl X x)(hm:X.mg x=some u)(r:aF v u)(hd:(x == ("__debug__" : Str))=false:=by decide):PE X (.Name x O) (tC v):=
 λ_ _ _ H _ I h=>vh I M hm ⟨v,H,I,r,h⟩ hd
def Lx (M:Gl X x)(hm:X.mg x=none)(hv:bootBuiltins x=some u)(r:aF v u)(hn:x ≠ "__name__":=by decide)(hd:(x == ("__debug__" : Str))=false:=by decide):PE X (.Name x O) (tC v):=
 λ_ _ _ H _ I h=>fz I M hm hv ⟨v,H,I,r,h⟩ hn hd
def t2I (ta tb:TE)(k:Int->Int->Hp->Prop):St->Hp->Prop:=λσ H=>ta σ H λx M=>tb σ M λy H2=>∃i j,x=.int i/\y=.int j/\k i j H2
variable {a b:Expr}{ta tb:TE}{pos:Pos}
def PC (X:Cx)(op:CmpOp)(a b:Expr)(t:TE):Prop:=
 ∀(af:AO)(s:Shared)(σ:St)(H:Hp)(Q:VK),Inv X af σ H s->t σ H Q ->
  wq X (eval a X.env) (λv M=>wq X (eval b X.env) (λu O=>wq X (compareOp op v u) (EP X af σ Q) X.xe O) X.xe M) X.xe s
def Xp (p:Int->Int->Bool)(ta tb:TE):TE:=λσ H Q=>t2I ta tb (λi j H2=>Q (.bl (p i j)) H2) σ H
abbrev Xq:TE->TE->TE:=Xp λi j=>decide (i<j)
def tB (t:TE):TT:=λσ H Q=>t σ H λx M=>∃c,x=.bl c/\Q c M
def P4 (h:PC X op a b t)(h1:behindInMarks op b=false:=by rfl):PE X (.Compare a [op] [b] pos) t:=λaf s σ H Q I hw=>wpAny_Compare1 (h _ s σ H Q I hw) h1
def P5 {op:CmpOp}{t:TE}(h:PC X op a b t)(h1:behindInMarks op b=false:=by rfl):PT X (.Compare a [op] [b] pos) (tB t):=by
 intro af s σ H Q I hw;refine wpAny_isTrue_Compare1 (bI (h _ s σ H _ I hw) λv s1 h1=>bI h1 λu s2 h2=>bI h2 λc f ⟨x,M,O,U,e⟩=>?_) h1;obtain⟨d,rfl,q⟩:=e;cases U
 exact wpAny_truthy_bool ⟨M,O,q⟩
def P6 {e:Expr}{t:TE}(h:PE X e t)(he:∀M,isTrue e X.env M=(do let v <-M;standAt e.pos;holding [v] (truthy v)):=by intro _;rfl):PT X e (tB t):=by
 intro af s σ H Q I hw;refine isTrue_plain (bI (h _ s σ H _ I hw) λv s1 ⟨x,O,U,c,f⟩=>?_) (he _);obtain⟨d,rfl,q⟩:=f;cases c
 exact wpAny_truthy_bool ⟨O,U,q⟩
variable {tA WR:TT}{aj:QD}
def T2 (t u:TT):TT:=λσ H Q=>t σ H λc M=>if c=true then u σ M Q else Q false M
def Z6 (t u:TT):TT:=λσ H Q=>t σ H λc M=>if c=true then Q true M else u σ M Q
def T3 (t:TT):TT:=λσ H Q=>t σ H λc M=>Q (!c) M
def Ly (ha:PT X a tA):PW X (.BoolOp .And [a] pos) tA:=by
 intro M af s σ H Q I h;refine isTrue_and (bI (ha _ s σ H Q I h) λc s1 e=>?_);grind[isTrue_and_nil]
def P7 (ha:PT X a tA):PW X (.BoolOp .Or [a] pos) tA:=by
 intro M af s σ H Q I h;refine isTrue_or (bI (ha _ s σ H Q I h) λc s1 e=>?_);grind[isTrue_or_nil]
def P8 (ha:PT X a tA)(hb:PW X (.BoolOp .And (b::aj) pos) WR):PW X (.BoolOp .And (a::b::aj) pos) (T2 tA WR):=by
 intro d af s σ H Q I h;refine isTrue_and (bI (ha _ s σ H _ I h) λc s1 ⟨M,O,U⟩=>?_);cases c with
 |true=>exact hb d _ s1 σ M Q O U
 |false=>exact⟨M,O,U⟩
def T4 (ha:PT X a tA)(hb:PW X (.BoolOp .Or (b::aj) pos) WR):PW X (.BoolOp .Or (a::b::aj) pos) (Z6 tA WR):=by
 intro d af s σ H Q I h;refine isTrue_or (bI (ha _ s σ H _ I h) λc s1 ⟨M,O,U⟩=>?_);cases c with
 |true=>exact⟨M,O,U⟩
 |false=>exact hb d _ s1 σ M Q O U
def P9 (ha:PT X a tA):PT X (.UnaryOp .Not a pos) (T3 tA):=by
 intro af s σ H Q I h;exact isTrue_not (ha _ s σ H _ I h)
def T5 (ta tb:TE):TE:=λσ H Q=>ta σ H λx M=>∃c,x=.bl c/\if c=true then tb σ M Q else Q (.bl false) M
def Xr (ta tb:TE):TE:=λσ H Q=>ta σ H λx M=>∃c,x=.bl c/\if c=true then Q (.bl true) M else tb σ M Q
def T6 (ta:TE):TE:=λσ H Q=>ta σ H λx M=>∃c,x=.bl c/\Q (.bl (!c)) M
def PB {op}(h:PE X a t):PE X (.BoolOp op [a] pos) t:=λaf s σ H Q I hw=>BoolOp_one (h _ s σ H Q I hw)
def PD (ha:PE X a ta)(hb:PE X (.BoolOp .And (b::aj) pos) tb):PE X (.BoolOp .And (a::b::aj) pos) (T5 ta tb):=by
 intro af s σ H Q I h;refine BoolOp_and (bI (ha _ s σ H _ I h) λv s1 ⟨x,O,U,d,M⟩=>?_);obtain⟨c,rfl,M⟩:=M;cases d
 refine wpAny_truthy_bool ?_;cases c with
 |true=>exact hb _ s1 σ O Q U M
 |false=>exact⟨.bl _,O,U,rr,M⟩
def T7 (ha:PE X a ta)(hb:PE X (.BoolOp .Or (b::aj) pos) tb):PE X (.BoolOp .Or (a::b::aj) pos) (Xr ta tb):=by
 intro af s σ H Q I h;refine BoolOp_or (bI (ha _ s σ H _ I h) λv s1 ⟨x,O,U,d,M⟩=>?_);obtain⟨c,rfl,M⟩:=M;cases d
 refine wpAny_truthy_bool ?_;cases c with
 |false=>exact hb _ s1 σ O Q U M
 |true=>exact⟨.bl _,O,U,rr,M⟩
def PF (ha:PE X a ta):PE X (.UnaryOp .Not a pos) (T6 ta):=by
 intro af s σ H Q I h;refine UnaryOp_ (bI (ha _ s σ H _ I h) λv s1 ⟨x,O,U,d,M⟩=>?_);obtain⟨c,rfl,M⟩:=M;cases d
 exact not_of (wpAny_truthy_bool ⟨.bl _,O,U,rr,M⟩)
end
def fD (K:Frag)(H:Hp)(a:Addr)(xs:List V):Prop:=
 Rd H a (.lst xs) \/
  ∃(o:Obj)(its:AV)(n:Nat),K.lookup a=some o/\o.cls=.type "list"/\o.dict=none/\o.data=.seq its n/\its.size<=sizeLine/\aL xs its.toList
def gF (K:Frag)(H:Hp)(a:Addr)(xs:List V):Prop:=
 Rd H a (.tup xs) \/
  ∃(o:Obj)(its:AV)(n:Nat),K.lookup a=some o/\o.cls=.type "tuple"/\o.data=.seq its n/\its.size<=sizeLine/\aL xs its.toList
noncomputable def Xs:Value->Option V
 |.none=>some .non
 |.bool b=>some (.bl b)
 |.int i _=>some (.int i)
 |.str x _=>some (.str x)
 |.bytes b _=>some (.byt b)
 |.float b _=>some (.flt b)
 |.ref a=>some (.ref a)
 |.type n=>some (.ty n)
 |_=>none
def aF.abs (r:aF x u):Xs u=some x:=by
 cases x with
 |non=>cases r;rfl
 |bl _=>cases r;rfl
 |int _=>obtain⟨t,rfl⟩:=r;rfl
 |str _=>obtain⟨t,rfl⟩:=r;rfl
 |byt _=>obtain⟨t,rfl⟩:=r;rfl
 |flt _=>obtain⟨t,rfl⟩:=r;rfl
 |ref _=>cases r;rfl
 |ty _=>cases r;rfl
def aF.inj (r:aF x u)(q:aF y u):x=y:=vK (r.abs.symm.trans q.abs)
theorem aL.inj:∀ {xs ys:List V}{us:LU},aL xs us->aL ys us->xs=ys
 |_,_,_,.nil,.nil=>rr
 |_,_,_,.cons r t,.cons M t'=>by rw[r.inj M,aL.inj t t']
section
variable {X:Cx}{af:AO}{σ:St}{H:Hp}{s:Shared}{a:Addr}{xs ys:List V}
def fD.of {K:Frag}(h:H a=some (.lst xs)):fD K H a xs:=.inl (.inl h)
def gF.of {K:Frag}(h:H a=some (.tup xs)):gF K H a xs:=.inl (.inl h)
def Inv.list (I:Inv X af σ H s)(h:fD X.K H a xs):∃its:LU,aL xs its/\PlainL s.heap a its.toArray/\xs.length<=sizeLine:=by
 rcases h with h|⟨o,its,n,hk,hc,hd,hs,hz,r⟩
 .obtain⟨z,its,n,r,e⟩:=h.ok I.hok;exact⟨its,r,⟨_,n,e,rr,rr,rr⟩,z⟩
 .refine⟨its.toList,r,⟨o,n,I.kIn a o hk,hc,hd,by simpa using hs⟩,?_⟩;have e:=r.length;simp_all
def Inv.tuple (I:Inv X af σ H s)(h:gF X.K H a xs):∃its:LU,aL xs its/\IsTup s.heap a its.toArray/\xs.length<=sizeLine:=by
 rcases h with h|⟨o,its,n,hk,hc,hs,hz,r⟩
 .obtain⟨z,its,r,p⟩:=h.ok I.hok;exact⟨its,r,p,z⟩
 .refine⟨its.toList,r,⟨o,I.kIn a o hk,hc,n,by simpa using hs⟩,?_⟩;have e:=r.length;simp_all
def Inv.list_inj (I:Inv X af σ H s)(h:fD X.K H a xs)(h':fD X.K H a ys):xs=ys:=by
 obtain⟨its,r,⟨o,n,e,_,_,d⟩,_⟩:=I.list h;obtain⟨its',M,⟨o',U,O,_,_,d'⟩,_⟩:=I.list h';rw[e]at O;have:its=its':=by simp_all
 subst this;exact r.inj M
def Inv.tuple_inj (I:Inv X af σ H s)(h:gF X.K H a xs)(h':gF X.K H a ys):xs=ys:=by
 obtain⟨its,r,⟨o,e,_,n,d⟩,_⟩:=I.tuple h;obtain⟨its',M,⟨o',O,_,U,d'⟩,_⟩:=I.tuple h';rw[e]at O;have:its=its':=by simp_all
 subst this;exact r.inj M
end
noncomputable abbrev Cx.wish (X:Cx)(E:QV):Cx:={ X with xe:=E }
abbrev Cx.nox (X:Cx):Cx:=X.wish λ_ _=>False
def Cx.Ok.wish {X:Cx}(ok:X.Ok)(E:QV):(X.wish E).Ok:=
 ⟨ok.mod,ok.kind,ok.glob,ok.blt,ok.above,ok.inj,ok.has,ok.cab,ok.hd,ok.frames,ok.stk,ok.exf,ok.bs,ok.bsz,ok.noex,ok.exfs,ok.funs,ok.frf⟩
def Cx.Ok.unwish {X:Cx}{E:QV}(ok:(X.wish E).Ok):X.Ok:=
 ⟨ok.mod,ok.kind,ok.glob,ok.blt,ok.above,ok.inj,ok.has,ok.cab,ok.hd,ok.frames,ok.stk,ok.exf,ok.bs,ok.bsz,ok.noex,ok.exfs,ok.funs,ok.frf⟩
section
variable {X:Cx}{af:AO}{σ:St}{H:Hp}{s:Shared}{E:QV}
def Inv.wish (I:Inv X af σ H s)(E:QV):Inv (X.wish E) af σ H s:=⟨I.ok.wish E,I.os,I.bare,I.base,I.loc,I.cell,I.free,I.freeC,I.pin,I.hok,I.len⟩
def Inv.unwish (I:Inv (X.wish E) af σ H s):Inv X af σ H s:=⟨I.ok.unwish,I.os,I.bare,I.base,I.loc,I.cell,I.free,I.freeC,I.pin,I.hok,I.len⟩
def SP.unwish (h:SP (X.wish E) af D f s'):SP X af D f s':=by
 cases f with
 |next=>obtain⟨M,H',I,q⟩:=h;exact⟨M,H',I.unwish,q⟩
 |brk=>obtain⟨M,H',I,q⟩:=h;exact⟨M,H',I.unwish,q⟩
 |cont=>obtain⟨M,H',I,q⟩:=h;exact⟨M,H',I.unwish,q⟩
 |ret u=>obtain⟨v,M,H',I,r,q⟩:=h;exact⟨v,M,H',I.unwish,r,q⟩
def tI.nox {st:List Stmt}{t:TS}(h:tI X.nox st t):tI X st t:=λaf s σ H D I hw=>
 wpAny_mono (h _ s σ H D (I.wish _) hw) (λ_ _ q=>q.unwish) λ_ _ z=>False.elim z
end
section
variable {X:Cx}{st:Stmt}{aj:List Stmt}{t u:TS}{e:Expr}{te:TE}{pos:Pos}
def O6:TS:=λD σ H=>D.nx σ H
def T8 (t u:TS):TS:=λD σ H=>t { D with nx:=u D } σ H
def Lz:tI X [] O6:=λ_ _ σ H _ I h=>wpAny_execs_nil ⟨σ,H,I,h⟩
def FL (h1:PS X st t)(h2:tI X aj u):tI X (st::aj) (T8 t u):=by
 intro af s σ H D I h;refine wpAny_execs_cons (bI (h1 _ s σ H _ I h) λf s1 q=>?_);cases f with
 |next=>
  obtain⟨M,H',O,q⟩:=q;exact h2 _ s1 _ H' D O q
 |ret v=>exact q
 |brk=>exact q
 |cont=>exact q
def L0 (h1:PS X st t):tI X [st] t:=by
 intro af s σ H D I h;refine wpAny_execs_cons (bI (h1 _ s σ H D I h) λf s1 q=>?_);cases f with
 |next=>exact wpAny_execs_nil q
 |ret v=>exact q
 |brk=>exact q
 |cont=>exact q
def T9:TS:=λD σ H=>D.ct σ H
def xI:PS X (.Continue pos) T9:=λ_ _ σ H _ I h=>wpAny_Continue ⟨σ,H,I,h⟩
def Inv.quiet (I:Inv X af σ H s):interactive X.env=false:=by simp[interactive,I.ok.kind]
def TB (te:TE):TS:=λD σ H=>te σ H λ_ M=>D.nx σ M
def BK (he:PE X e te)(hs:swapsWith e none pos.line X.env=pure false:=by rfl):PS X (.Expr e pos) (TB te):=by
 intro af s σ H D I h;exact wpAny_Expr_any (bI (he _ s σ H _ I h) λv s1 ⟨x,M,O,a,U⟩=>⟨σ,M,O,U⟩) I.quiet hs
def PH (te:TE):TS:=λD σ H=>te σ H D.rt
def FM (he:PE X e te):PS X (.Return (some e) pos) (PH te):=by
 intro af s σ H D I h;exact wpAny_Return_some (bI (he _ s σ H _ I h) λv s1 ⟨x,M,O,U,a⟩=>⟨x,σ,M,O,U,a⟩)
def TC (c:TT)(t u:TS):TS:=λD σ H=>c σ H λb M=>if b=true then t D σ M else u D σ M
def TD {c:Expr}{a b:List Stmt}{M:TT}(hc:PT X c M)(ha:tI X a t)(hb:tI X b u):PS X (.If c a b pos) (TC M t u):=by
 intro af s σ H D I h;refine wpAny_If (bI (hc _ s σ H _ I h) λd s1 ⟨O,U,f⟩=>?_);cases d with
 |true=>exact ha _ s1 σ O D U f
 |false=>exact hb _ s1 σ O D U f
end
abbrev TG:=V->St->Hp->(St->Hp->Prop)->Prop
abbrev PJ:=List V->St->Hp->(St->Hp->Prop)->Prop
def PG (X:Cx)(M:Expr)(t:TG):Prop:=
 ∀(af:AO)(s:Shared)(σ:St)(H:Hp)(v:V)(u:Value)(Q:St->Hp->Prop),Inv X af σ H s->aF v u->t v σ H Q ->
  wq X (assign M X.env u) (λ_ s'=>∃O H',Inv X af O H' s'/\Q O H') X.xe s
def WE (X:Cx)(O:QD)(t:PJ):Prop:=
 ∀(af:AO)(s:Shared)(σ:St)(H:Hp)(vs:List V)(us:LU)(Q:St->Hp->Prop),Inv X af σ H s->aL vs us->t vs σ H Q ->
  wq X (assignInOrder ((assignEach O X.env).map (·.2)) us) (λ_ s'=>∃M H',Inv X af M H' s'/\Q M H') X.xe s
abbrev PK:=V->V->V->Hp->(Hp->Prop)->Prop
def TF (X:Cx)(t:PK):Prop:=
 ∀(af:AO)(s:Shared)(σ:St)(H:Hp)(o i v:V)(M iv u:Value)(Q:Hp->Prop),Inv X af σ H s->aF o M->aF i iv->aF v u->t o i v H Q ->
  wq X (setItem M iv u) (λ_ s'=>∃H',Inv X af σ H' s'/\Q H') X.xe s
section
variable {X:Cx}{pos:Pos}
def gY (i:Nat):TG:=λv σ H Q=>Q (σ.set i (some v)) H
def BL (M:X.N.Nodup)(hi:X.N[i]? = some x)(hx:Lf X.env.scope x)(hf:X.fn x=true\/X.env.scope.names.lookup x=some .local:=by first|exact .inl rr|exact .inr rr|assumption):PG X (.Name x pos) (gY i):=by
 intro af s σ H v u Q I r h;exact wpAny_assign_Name (xH I M hi hx r (λs' O=>⟨_,H,O,h⟩) hf)
def TH:PJ:=λvs σ H Q=>vs=[]/\Q σ H
def O7 (t:TG)(u:PJ):PJ:=λvs σ H Q=>∃v r,vs=v::r/\t v σ H λM H'=>u r M H' Q
def vi:WE X [] TH:=by
 intro af s σ H vs us Q I r h;obtain⟨e,h⟩:=h;exact assignInOrder_nil ⟨σ,H,I,h⟩
def gZ {e:Expr}{es:QD}{t:TG}{u:PJ}(h1:PG X e t)(h2:WE X es u)
  (hs:(assignEach (e::es) X.env).map (·.2)=assign e X.env::(assignEach es X.env).map (·.2):=by rfl):WE X (e::es) (O7 t u):=by
 intro af s σ H vs us Q I r h;obtain⟨v,d,M,h⟩:=h;subst M;cases r with
 |cons r O=>
  rw[hs];refine assignInOrder_cons (bI (h1 _ s σ H _ _ _ I r h) λ_ s1 ⟨U,a,b,c⟩=>?_);exact h2 _ s1 _ a _ _ Q b O c
def FN (K:Frag)(n:Nat)(t:PJ):TG:=λv σ H Q=>∃a xs,v=.ref a/\gF K H a xs/\xs.length=n/\t xs σ H Q
def Ap (hc:X.calm=true)(h:WE X es t)
  (hn:(assignEach es X.env).length=n:=by rfl) (M:(assignEach es X.env).findIdx? (·.1)=none:=by rfl):PG X (.Tuple es k pos) (FN X.K n t):=by
 intro af s σ H v u Q I r hw;obtain⟨a,xs,U,hq,hl,hw⟩:=hw;subst U;cases r
 obtain⟨its,O,c,hz⟩:=I.tuple hq;refine assign_Tuple_tuple (I.ok.hd hc) c (by simp[hn,<-hl,O.length]) M λh' hx=>?_;have d:=I.kept (t':=s.toks) λb o e=>hx b o (vS (vX e)) e;exact h _ _ σ H xs _ Q d (by simpa using O) hw
def Xt (to ti:TE)(t:PK):TG:=λv σ H Q=>to σ H λo M=>ti σ M λi H2=>t o i v H2 λO=>Q σ O
def PL {o i:Expr}{to ti:TE}{t:PK}(ho:PE X o to)(hi:PE X i ti)(hs:TF X t)
  (ha:∀v,assign (.Subscript o i pos) X.env v=(do
   let M <-holding [v] (eval o X.env)
   let iv <-holding [v,M] (eval i X.env)
   standAt pos
   holding [v,M,iv] (setItem M iv v)
   release [v,M,iv] []):=by intro _;rfl):PG X (.Subscript o i pos) (Xt to ti t):=by
 intro af s σ H v u Q I r h;refine wX (wpAny_holding (bI (ho _ s σ H _ I h) λM s1 ⟨x,O,U,a,b⟩=>?_));refine wX (wpAny_holding (bI (hi _ s1 σ O _ U b) λiv s2 ⟨y,H2,c,d,q2⟩=>?_));refine wX (wpAny_standAt (wX (wpAny_holding (bI (hs _ s2 σ H2 x y v M iv u _ c a d r q2) λ_ j ⟨e,f,g⟩=>?_))));exact wpAny_release ⟨σ,e,f,g⟩
def DN (M:TE)(g:TG):TS:=λD σ H=>M σ H λx O=>g x σ O D.nx
def PM {tg e:Expr}{M:TE}{g:TG}(he:PE X e M)(O:PG X tg g)(hs:swapsWithSole [tg] e pos.line X.env=pure false:=by rfl)(hw:swappedStores [tg] e X.env=pure none:=by rfl)
  (h1:(assignEach [tg] X.env).map (·.2)=[assign tg X.env]:=by rfl):PS X (.Assign [tg] e pos) (DN M g):=by
 intro af s σ H D I h;refine wpAny_Assign_stores (bI (he _ s σ H _ I h) λv s1 ⟨x,U,a,b,c⟩=>?_) hs hw;rw[h1];exact bI (O _ s1 σ U x v _ a b c) λ_ s2 q=>q
def vj {i:Nat}{x:Str}{e:Expr}{O:TE}{M:Pos}(U:X.N.Nodup)(hi:X.N[i]? = some x)(hx:Lf X.env.scope x)(he:PE X e O)(hs:swapsWith e (some (.Name x M)) pos.line X.env=pure false:=by rfl)(hf:X.fn x=true\/X.env.scope.names.lookup x=some .local:=by first|exact .inl rr|exact .inr rr|assumption):
  PS X (.Assign [.Name x M] e pos) (DN O (gY i)):=by
 intro af s σ H D I h;refine wpAny_Assign_Name (bI (he _ s σ H _ I h) λv s1 ⟨y,a,b,c,d⟩=>?_) hs;exact xH b U hi hx c (λs2 f=>⟨_,a,f,d⟩) hf
end
section
variable {X:Cx}{pos:Pos}
def FP (c:TT)(tb:TS):TS:=λD σ H=>∃W:Nat->St->Hp->Prop,(∃m,W m σ H)/\∀m σ H,W m σ H ->
 c σ H λb O=>if b=true then ∃N:St->Hp->Prop,(∀M H',N M H'->∃U,U<m/\W U M H')/\tb { D with nx:=N,ct:=N,bk:=D.nx } σ O else D.nx σ O
def FQ {c:Expr}{M:List Stmt}{l:TT}{tb:TS}(hp:PassesOwn (model X.prog X.w) X.A X.env X.xe)(hc:PT X c l)(hb:tI X M tb):PS X (.While c M [] pos) (FP l tb):=by
 intro af s σ H D I h;obtain⟨W,⟨q,r⟩,U⟩:=h;refine wpAny_While (codeAny_whileLoop (λn s'=>∃a H',Inv X _ a H' s'/\W n a H') ?_ q ⟨σ,H,I,r⟩);rintro n s1 ⟨g,m,t,u⟩;refine wpAny_passesOwn hp (bI (hc _ s1 _ m _ t (U n _ m u)) λb s2 ⟨H2,o,q2⟩=>?_);cases b with
 |true=>
  obtain⟨N,p,q2⟩:=q2;refine wpAny_passesOwn hp (bI (hb _ s2 _ H2 _ o q2) λf x e=>?_);cases f with
  |next=>
   obtain⟨O,d,i,n3⟩:=e;obtain⟨j,hm,k⟩:=p _ d n3;exact⟨j,hm,O,d,i,k⟩
  |cont=>
   obtain⟨O,d,i,n3⟩:=e;obtain⟨j,hm,k⟩:=p _ d n3;exact⟨j,hm,O,d,i,k⟩
  |brk=>exact e
  |ret v=>exact e
 |false=>
  exact wpAny_execs_nil ⟨g,H2,o,q2⟩
end
structure It where
 go:Nat->Hp->Prop
 yld:Nat->Hp->V->Hp->Prop
 stop:Nat->Hp->Prop
def lg (X:Cx)(af:AO)(H:Hp)(b:Addr):Prop:=
 H b=none/\b≠X.env.locals/\b∉X.fs/\(b∈X.ex\/X.s₀.z<=b)/\(∀x c,X.env.cells.lookup x=some c->c≠b)/\∀p∈X.pn++af,p.1≠b
def Inv.fpOk (I:Inv X af σ H s)(hb:s.z<=b)(hn:H' b=none):lg X af H' b:=by
 refine⟨hn,ne_of_gt (vQ I.lt hb),I.nofs hb,.inr (vR I.sz hb),λx c e z=>?_,λp hp z=>?_⟩
 .obtain⟨v,q⟩:=I.cell x c e;exact absurd (vQ q.lt (by rw[z];exact hb)) (Nat.lt_irrefl _)
 .exact absurd (vQ (vX (I.pin p hp).1) (by rw[z];exact hb)) (Nat.lt_irrefl _)
structure Turn (P:Program)(w:World)(K:Frag)(tg:Expr)(J:It)(fp:List Addr)(it:Addr)(tn:Nat->Heap->Prop):Prop where
 mem:it∈fp
 obj:∀i h,tn i h->∀b∈fp,∃o,h.get? b=some o/\∀v,o.data≠.cell v
 keep:∀i h h',tn i h->(∀b∈fp,∀o,h.get? b=some o->h'.get? b=some o)->tn i h'
 item:∀(X:Cx),X.prog=P->X.w=w->X.K=K->X.calm=true->∀(i:Nat)(af:List (Addr×Obj))(s:Shared)(σ:St)(H:Hp)(E:Value->Shared->Prop),Inv X af σ H s->(∀b∈fp,lg X af H b)->tn i s.heap->J.go i H ->
  wpAny (model P w) X.A (pyNext (.ref it)) (λr s1=>∃u,r=some u /\
   wpAny (model P w) X.A (letOwnedTupleGo tg (.ref it) u) (λ_ s2=>∃x H',Inv X af σ H' s2/\aF x u/\J.yld i H x H'/\tn (i+1) s2.heap/\∀b∈fp,H' b=none) E s1) E s
 done:∀(X:Cx),X.prog=P->X.w=w->X.K=K->X.calm=true->∀(i:Nat)(af:List (Addr×Obj))(s:Shared)(σ:St)(H:Hp)(E:Value->Shared->Prop),Inv X af σ H s->(∀b∈fp,lg X af H b)->tn i s.heap->J.stop i H ->
  wpAny (model P w) X.A (pyNext (.ref it)) (λr s1=>r=none/\Inv X af σ H s1) E s
 self:∀(A:Around)(i:Nat)(s:Shared)(Q:Value->Shared->Prop)(E:Value->Shared->Prop),tn i s.heap->Q (.ref it) s->wpAny (model P w) A (pyIter (.ref it)) Q E s
abbrev TI:=St->Hp->(It->Hp->Prop)->Prop
def Z7 (X:Cx)(af:AO)(σ:St)(tg:Expr)(R:It->Hp->Prop)(M:Value)(s2:Shared):Prop:=
 ∃(it:Addr)(fp:List Addr)(tn:Nat->Heap->Prop)(J:It)(H':Hp),M=.ref it/\Inv X af σ H' s2/\Turn X.prog X.w X.K tg J fp it tn/\tn 0 s2.heap/\(∀b∈fp,lg X af H' b)/\R J H'
def PI (X:Cx)(tg M:Expr)(O:TI):Prop:=
 ∀(af:AO)(s:Shared)(σ:St)(H:Hp)(R:It->Hp->Prop),Inv X af σ H s->O σ H R ->
  wq X (eval M X.env) (λv s1=>wq X (pyIter v) (Z7 X af σ tg R) X.xe s1) X.xe s
def pM (ho:s.heap.get? it=some o)(hc:o.cls=.type n)(hd:o.data=.fields vs)
    (hn:["enumerate","zip","dict_itemiterator","dict_reverseitemiterator","odict_iterator","itertools.zip_longest","itertools.pairwise"].contains n=false) (O:Q () s):wpAny M A (letOwnedTupleGo tg (.ref it) u) Q E s:=by
  cases tg<;>first
    |exact wY O
    | (cases u<;>first
        |exact wY O
        | (refine wX (wpAny_load ho ?_)
           rw[hc,hd]
           show wpAny M A (if(["enumerate","zip","dict_itemiterator","dict_reverseitemiterator","odict_iterator","itertools.zip_longest","itertools.pairwise"].contains n && vs[0]? == some _)=true then _ else _) Q E s
           rw[if_neg (by intro h;rw[hn]at h;cases h)]
           exact wY O))
noncomputable def Z8 (K:Frag)(a:Addr):It:=
 ⟨λi H=>∃xs x,fD K H a xs/\xs[i]? = some x,λi H x H'=>H'=H/\∀xs,fD K H a xs->xs[i]? = some x,λi H=>∃xs,fD K H a xs/\xs.length<=i⟩
noncomputable def Z9 (K:Frag)(a:Addr):It:=
 ⟨λi H=>∃xs x,gF K H a xs/\xs[i]? = some x,λi H x H'=>H'=H/\∀xs,gF K H a xs->xs[i]? = some x,λi H=>∃xs,gF K H a xs/\xs.length<=i⟩
noncomputable def WG (lo:Int)(n:Nat):It:=⟨λi _=>i<n,λi H x H'=>H'=H/\x=.int (lo+i),λi _=>n<=i⟩
def DO {P:Program}{w:World}{K:Frag}{tg:Expr}(a it:Addr):Turn P w K tg (Z8 K a) [it] it (λi h=>h.IsListIter it a i) where
 mem:=H9
 obj:=λi h st b hb=>by
  have e:=by simpa using hb
  obtain⟨o,e,c,d⟩:=st;simp_all
 keep:=λi h h' st k=>st.at λo e=>k it H9 o e
 item:=by
  intro X O hw U hc i af s σ H E I hf st f;subst O hw U;obtain⟨xs,x,hq,hx⟩:=f;obtain⟨its,g,p,hz⟩:=I.list hq;obtain⟨u,hu,ru⟩:=g.get hx;obtain⟨j,f1,f2,l,m,n⟩:=hf it H9;refine wpAny_pyNext_list_item st p.isList (by simpa using hu) λh' M q=>?_;have r:=I.turned (t':=s.toks) (λb o hb e=>(q.2 b hb).trans e) j f1 l m n;obtain⟨o,e,c,d⟩:=id M;exact⟨u,rr,pM e c d O9 ⟨x,H,r,ru,⟨rr,λys hy=>by rw[I.list_inj hy hq];exact hx⟩,M,λb hb=>(hf b hb).1⟩⟩
 done:=by
  intro X O hw U hc i af s σ H E I hf st f;subst O hw U;obtain⟨xs,hq,hx⟩:=f;obtain⟨its,g,p,hz⟩:=I.list hq;obtain⟨j,f1,f2,l,m,n⟩:=hf it H9;have hl:=g.length;exact wpAny_pyNext_list_end (I.ok.hd hc) st p.isList s9 λh' t=>⟨rr,I.turned (λb o hb e=>t b o hb e) j f1 l m n⟩
 self:=λ_ _ _ _ _ st h=>wpAny_pyIter_listiter st h
def Aq {P:Program}{w:World}{K:Frag}{tg:Expr}(a it:Addr):Turn P w K tg (Z9 K a) [it] it (λi h=>h.IsTupleIter it a i) where
 mem:=H9
 obj:=λi h st b hb=>by
  have e:=by simpa using hb
  obtain⟨o,e,c,d⟩:=st;simp_all
 keep:=λi h h' st k=>st.at λo e=>k it H9 o e
 item:=by
  intro X O hw U hc i af s σ H E I hf st f;subst O hw U;obtain⟨xs,x,hq,hx⟩:=f;obtain⟨its,g,p,hz⟩:=I.tuple hq;obtain⟨u,hu,ru⟩:=g.get hx;obtain⟨j,f1,f2,l,m,n⟩:=hf it H9;refine wpAny_pyNext_tuple_item st (show s.heap.IsTuple a _ from p) (by simpa using hu) λh' M q=>?_;have r:=I.turned (t':=s.toks) (λb o hb e=>(q.2 b hb).trans e) j f1 l m n;obtain⟨o,e,c,d⟩:=id M;exact⟨u,rr,pM e c d O9 ⟨x,H,r,ru,⟨rr,λys hy=>by rw[I.tuple_inj hy hq];exact hx⟩,M,λb hb=>(hf b hb).1⟩⟩
 done:=by
  intro X O hw U hc i af s σ H E I hf st f;subst O hw U;obtain⟨xs,hq,hx⟩:=f;obtain⟨its,g,p,hz⟩:=I.tuple hq;obtain⟨j,f1,f2,l,m,n⟩:=hf it H9;have hl:=g.length;exact wpAny_pyNext_tuple_end (I.ok.hd hc) st (show s.heap.IsTuple a _ from p) s9 λh' t=>⟨rr,I.turned (λb o hb e=>t b o hb e) j f1 l m n⟩
 self:=λ_ _ _ _ _ st h=>wpAny_pyIter_tupleiter st h
def Ar {P:Program}{w:World}{K:Frag}{tg:Expr}(it:Addr)(lo:Int)(n:Nat):Turn P w K tg (WG lo n) [it] it (λi h=>IsRangeIter h it (lo+(i:Nat)*1) ((n:Int) - (i:Nat)) 1) where
 mem:=H9
 obj:=λi h st b hb=>by
  simp_all
 keep:=λi h h' st k=>k it H9 _ st
 item:=by
  intro X f hw g hc i af s σ H E I hf st O;subst f hw g;obtain⟨U,f1,f2,a,c,d⟩:=hf it H9;have W:=Walks.range (prog:=X.prog) (w:=X.w) (I.ok.hd hc) it lo 1 n;refine W.item i s _ _ O st λv h' tk hv M j=>?_;obtain⟨t,rfl⟩:=hv;have l:Inv X _ σ H { s with heap:=h',toks:=tk }:=I.turned (λb o hb e=>j b o (by simpa using hb) e) U f1 a c d;refine⟨_,rr,pM M rr rr O9 ⟨.int _,H,l,⟨t,?_⟩,⟨rr,rr⟩,M,λb hb=>(hf b hb).1⟩⟩;simp
 done:=by
  intro X f hw g hc i af s σ H E I hf st O;obtain⟨U,f1,f2,a,c,d⟩:=hf it H9;exact wpAny_pyNext_range_end (I.ok.hd hc) st (by have:n<=i:=O;lia) λh' m=>⟨rr,I.turned (λb o hb e=>m b o hb e) U f1 a c d⟩
 self:=λ_ _ _ _ _ st h=>wpAny_pyIter_rangeiter st h
section
variable {X:Cx}{tg:Expr}
def TJ (K:Frag)(tl:TE):TI:=λσ H R=>tl σ H λx M=>∃a,x=.ref a/\(∃xs,fD K M a xs)/\R (Z8 K a) M
def Xu (K:Frag)(tl:TE):TI:=λσ H R=>tl σ H λx M=>∃a,x=.ref a/\(∃xs,gF K M a xs)/\R (Z9 K a) M
def L1 {l:Expr}{tl:TE}(hl:PE X l tl):PI X tg l (TJ X.K tl):=by
 intro af s σ H R I h;refine bI (hl _ s σ H _ I h) λv s1 ⟨x,O,M,U,c⟩=>?_;obtain⟨a,e,⟨xs,hq⟩,q⟩:=c;subst e;cases U
 obtain⟨its,d,p,hz⟩:=M.list hq;refine wpAny_pyIter_list p.isList ?_;refine⟨s1.z,[s1.z],_,_,O,rr,M.kept λb o e=>vZ _ e,DO a _,⟨_,vY _ rr,rr,rr⟩,λb hb=>?_,q⟩;have e:=by simpa using hb
 subst e;exact M.fpOk (vT _) (M.hok.fresh (vT _))
def PN {l:Expr}{tl:TE}(hl:PE X l tl):PI X tg l (Xu X.K tl):=by
 intro af s σ H R I h;refine bI (hl _ s σ H _ I h) λv s1 ⟨x,O,M,U,c⟩=>?_;obtain⟨a,e,⟨xs,hq⟩,q⟩:=c;subst e;cases U
 obtain⟨its,d,p,hz⟩:=M.tuple hq;refine wpAny_pyIter_tuple (show s1.heap.IsTuple a _ from p) ?_;refine⟨s1.z,[s1.z],_,_,O,rr,M.kept λb o e=>vZ _ e,Aq a _,⟨_,vY _ rr,rr,rr⟩,λb hb=>?_,q⟩;have e:=by simpa using hb
 subst e;exact M.fpOk (vT _) (M.hok.fresh (vT _))
def FR {af:AO}{σ:St}{H:Hp}{s:Shared}{R:It->Hp->Prop}{E:QV}{lo hi:Int}{t u v:Tok}{tk:Nat}(I:Inv X af σ H s)(h1 : -(2 ^ 62)<=lo)(h2:lo<2 ^ 62)(h3 : -(2 ^ 62)<=hi)(h4:hi<2 ^ 62)
  (q:R (WG lo (hi - lo).toNat) H):wq X (pyIter (.ref s.z)) (Z7 X af σ tg R) E { s with heap:=s.heap.push { cls:=.type "range",data:=.fields #[.int lo t,.int hi u,.int 1 v] },toks:=tk }:=by
 refine wpAny_pyIter_range (IsRange.new ..) (small_one h1 h2 h3 h4) ?_;have M:Inv X _ σ H { s with heap:=s.heap.push { cls:=.type "range",data:=.fields #[.int lo t,.int hi u,.int 1 v] },toks:=tk }:=I.kept λb o e=>vZ _ e;refine⟨(s.heap.push _).objs.size,[(s.heap.push _).objs.size],_,_,H,rr,
  M.kept λb o e=>vZ _ e,Ar _ lo _,?_,λb hb=>?_,q⟩
 .have O:lo+((0:Nat):Int)*1=lo:=H9
  have e2:(((hi - lo).toNat:Nat):Int) - ((0:Nat):Int)=Builtin.Range.rangeSize lo hi 1:=by rw[rangeSize_one];split<;>lia
  rw[O,e2];exact vY _ rr
 .have e:b=(s.heap.push { cls:=.type "range",data:=.fields #[.int lo t,.int hi u,.int 1 v] }).objs.size:=by simpa using hb
  subst e;exact M.fpOk (vT _) (M.hok.fresh (vT _))
def TK (ta:TA):TI:=λσ H R=>ta σ H λvs M=>∃j:Int,vs=[.int j]/\-(2 ^ 62)<=j/\j<2 ^ 62/\R (WG 0 j.toNat) M
def DP {a:Expr}{ta:TA}{p M:Pos}(U:Gl X "range")(hm:X.mg "range" = none)(ha:PA X [a] ta)(hs:starEach [a] X.env=[(false,eval a X.env)]:=by rfl):PI X tg (.Call (.Name "range" p) [a] [] M) (TK ta):=by
 intro af s σ H R I h;refine Call_ (fz I U hm boot_range (PyProof.Rows.callWith_type1 (bI (ha _ _ s σ H _ I h) λus s1 ⟨vs,f,b,c,O⟩=>?_) hs rr));obtain⟨j,e,O,q2,q⟩:=O;subst e;cases c with
 |cons r d=>
  cases d
  obtain⟨t,rfl⟩:=r;exact call_range_1 (FR b N9 N9 O q2 (by simpa using q))
def PP (a:TI)(g:TG)(tb:TS):TS:=λD σ H=>a σ H λJ b=>∃W:Nat->Nat->St->Hp->Prop,(∃m,W 0 m σ b)/\∀i m σ H,W i m σ H ->
 (J.stop i H/\D.nx σ H)\/(J.go i H/\∃N:St->Hp->Prop,(∀M H',N M H'->∃U,U<m/\W (i+1) U M H')/\∀x H',J.yld i H x H'->g x σ H' λO H2=>tb { D with nx:=N,ct:=N,bk:=D.nx } O H2)
def pN (fp:List Addr)(h:Heap):AO:=fp.filterMap λb=>(h.get? b).map λo=>(b,o)
def iE {fp:List Addr}{h:Heap}{b:Addr}{o:Obj}(hb:b∈fp)(e:h.get? b=some o):(b,o)∈pN fp h:=mem_filterMap.mpr ⟨b,hb,by rw[e];rfl⟩
def DQ (hp:p∈pN fp h):p.1∈fp/\h.get? p.1=some p.2:=by
 obtain⟨b,hb,e⟩:=mem_filterMap.mp hp;simp_all<;>lia
def Inv.pinned (I:Inv X af σ H s)(hf:∀b∈fp,lg X af H b)(ho:∀b∈fp,∃o,s.heap.get? b=some o/\∀v,o.data≠.cell v):Inv X (af++pN fp s.heap) σ H s:=
 I.pins_of λp hp=>(mem_append.mp hp).elim (λz=>I.pin p (mY _ z)) λz=>by
  obtain⟨hb,e⟩:=DQ z;obtain⟨M,f1,f2,_⟩:=hf _ hb;grind
def Inv.unpinned (I:Inv X (af++pl) σ H s):Inv X af σ H s:=I.pins_of λp hp=>I.pin p (mY _ (mem_append_left _ hp))
def FU {O:Expr}{l:List Stmt}{F:TI}{g:TG}{tb:TS}{t:Pos}(hp:PassesOwn (model X.prog X.w) X.A X.env X.xe)(hc:X.calm=true)(hi:PI X tg O F)(R:PG X tg g)(hb:tI X l tb)
  (hs:∀x,foldedSetIterable O X.env x=pure x:=by intro _;rfl):PS X (.For tg O l [] t) (PP F g tb):=by
 intro af s σ H D I h;refine wpAny_For (bI (hi af s σ H _ I h) λv s1 h1=>bI h1 λZX s2 h2=>?_) hs;obtain⟨it,fp,tn,J,H2,e,S,T,V,f2,W,⟨Y,Z⟩,F4⟩:=h2;subst e
 -- what stays true of the iterator's objects through the loop
 have U:∀ {H':Hp},(∀b∈fp,H' b=none)->∀b∈fp,lg X af H' b:=λhn b hb=>⟨hn b hb,(f2 b hb).2⟩;refine codeAny_forLoop_any (λn s'=>∃i a H',Inv X af a H' s'/\tn i s'.heap/\(∀b∈fp,H' b=none)/\W i n a H') ?_ Y ⟨0,σ,H2,S,V,λb hb=>(f2 b hb).1,Z⟩;rintro n G ⟨i,c,q,K,L,P,w3⟩;rcases F4 i n c q w3 with⟨stop,qn⟩|⟨go,N,hN,step⟩
 .refine wpAny_passesOwn hp (bI (T.done X rr rr rr hc i af G c q X.xe K (U P) L stop) λr s4 ⟨y,I4⟩=>?_);subst y;exact wpAny_execs_nil ⟨c,q,I4,qn⟩
 .refine wpAny_passesOwn hp (bI (T.item X rr rr rr hc i af G c q X.xe K (U P) L go) λr s4 ⟨u,y,h4⟩=>?_);subst y;refine wpAny_passesOwn hp (bI h4 λ_ s5 ⟨x,Q,I5,r5,y5,z,Yw⟩=>?_);have B:=I5.pinned (U Yw) (T.obj _ _ z);refine wpAny_passesOwn hp (bI (R _ s5 c Q x u _ B r5 (step x Q y5)) λ_ s6 ⟨C,H6,I6,q6⟩=>?_);refine wpAny_passesOwn hp (bI (hb _ s6 C H6 _ I6 q6) λf E p=>?_);have again:∀ {M:St}{j:Hp},Inv X _ M j E->N M j->∃m,m<n/\∃i a H',Inv X af a H' E/\tn i E.heap/\(∀b∈fp,H' b=none)/\W i m a H':=λ{M j} k n7=>by
   obtain⟨m',hm,w7⟩:=hN M j n7;refine⟨m',hm,i+1,M,j,k.unpinned,T.keep _ _ _ z λb hb o e=>(k.pin (b,o) (mY _ (mY _ (iE hb e)))).1,λb hb=>?_,w7⟩;obtain⟨o,e,d⟩:=T.obj _ _ z b hb;exact(k.pin (b,o) (mY _ (mY _ (iE hb e)))).2.1
  cases f with
  |next=>obtain⟨M,j,k,n7⟩:=p;exact again k n7
  |cont=>obtain⟨M,j,k,n7⟩:=p;exact again k n7
  |brk=>obtain⟨M,j,k,p⟩:=p;exact⟨M,j,k.unpinned,p⟩
  |ret v=>obtain⟨x7,M,j,k,r7,p⟩:=p;exact⟨x7,M,j,k.unpinned,r7,p⟩
end
abbrev R2:=V->V->Hp->VK->Prop
def cB (X:Cx)(f:Value->Value->Sem Value)(r:R2):Prop:=
 ∀(af:AO)(s:Shared)(σ:St)(H:Hp)(x y:V)(v u:Value)(Q:VK),Inv X af σ H s->aF x v->aF y u->r x y H Q ->
  wq X (f v u) (EP X af σ Q) X.xe s
def TL (X:Cx)(f:Value->Sem Value)(r:V->Hp->VK->Prop):Prop:=
 ∀(af:AO)(s:Shared)(σ:St)(H:Hp)(x:V)(v:Value)(Q:VK),Inv X af σ H s->aF x v->r x H Q ->
  wq X (f v) (EP X af σ Q) X.xe s
def bg (X:Cx)(f:Value)(r:List V->Hp->VK->Prop):Prop:=
 ∀(af:AO)(s:Shared)(σ:St)(H:Hp)(xs:List V)(us:LU)(Q:VK),Inv X af σ H s->aL xs us->r xs H Q ->
  wq X (call f us) (EP X af σ Q) X.xe s
def WH (r:R2)(ta tb:TE):TE:=λσ H Q=>ta σ H λx M=>tb σ M λy H2=>r x y H2 Q
def tUn (r:V->Hp->VK->Prop)(ta:TE):TE:=λσ H Q=>ta σ H λx M=>r x M Q
def rI (C:Int->Int->Prop)(g:Int->Int->V):R2:=λx y H Q=>∃i j,x=.int i/\y=.int j/\C i j/\Q (g i j) H
def Lg (g:Int->Int->V):R2:=λx y H Q=>∃i j,x=.int i/\y=.int j/\Q (g i j) H
def rU (g:Int->V):V->Hp->VK->Prop:=λx H Q=>∃i,x=.int i/\Q (g i) H
section
variable {X:Cx}{a b c:Expr}{ta tb tc:TE}{pos:Pos}
def PQ (ha:PE X a ta)(hb:PE X b tb){af:AO}{s:Shared}{σ:St}{H:Hp}{R:V->V->Hp->Prop}(I:Inv X af σ H s)
  (h:ta σ H λx U=>tb σ U λy H2=>R x y H2) {Q:QV}{f:Value->Value->Sem Value}
  (hf:∀v u s2 x y H2,Inv X af σ H2 s2->aF x v->aF y u->R x y H2->wq X (f v u) Q X.xe s2):
  wq X (eval a X.env) (λv M=>wq X (eval b X.env) (λu O=>wq X (f v u) Q X.xe O) X.xe M) X.xe s:=by
 refine bI (ha _ s σ H _ I h) λv s1 ⟨x,U,d,e,g⟩=>?_;refine bI (hb _ s1 σ U _ d g) λu s2 ⟨y,H2,i,j,q2⟩=>?_;exact hf v u s2 x y H2 i e j q2
def TM {op:Operator}{r:R2}(ho:cB X (binaryOp op) r)(ha:PE X a ta)(hb:PE X b tb):PE X (.BinOp a op b pos) (WH r ta tb):=by
 intro af s σ H Q I h;exact wpAny_BinOp (PQ ha hb I h λv u s2 x y H2 M O U q=>ho _ s2 σ H2 x y v u Q M O U q)
def TN {op:UnaryOp}{r:V->Hp->VK->Prop}(ho:TL X (unaryOp op) r)(ha:PE X a ta):PE X (.UnaryOp op a pos) (tUn r ta):=by
 intro af s σ H Q I h;exact UnaryOp_ (bI (ha _ s σ H _ I h) λv s1 ⟨x,M,O,U,d⟩=>ho _ s1 σ M x v Q O U d)
def TQ {f:Value->Value->Sem Value}{C:Int->Int->Prop}{g:Int->Int->Int}
  (rule:∀(i j:Int)(t u:Tok)(s:Shared)(Q:QV)(E:QV),C i j->Q (.int (g i j) s.toks) { s with toks:=s.toks+1 }->wq X (f (.int i t) (.int j u)) Q E s):
  cB X f (rI C λi j=>.int (g i j)):=by
 intro af s σ H x y v u Q I M O h;obtain⟨i,j,rfl,rfl,hc,q⟩:=h;obtain⟨t,rfl⟩:=M;obtain⟨t',rfl⟩:=O;exact rule i j t t' s _ _ hc ⟨.int _,H,I.tok _,⟨_,rr⟩,q⟩
def PR {f:Value->Value->Sem Value}{g:Int->Int->Int}
  (rule:∀(i j:Int)(t u:Tok)(s:Shared)(Q:QV)(E:QV),Q (.int (g i j) s.toks) { s with toks:=s.toks+1 }->wq X (f (.int i t) (.int j u)) Q E s):
  cB X f (Lg λi j=>.int (g i j)):=by
 intro af s σ H x y v u Q I M O h;obtain⟨i,j,rfl,rfl,q⟩:=h;obtain⟨t,rfl⟩:=M;obtain⟨t',rfl⟩:=O;exact rule i j t t' s _ _ ⟨.int _,H,I.tok _,⟨_,rr⟩,q⟩
def L3 {f:Value->Value->Sem Value}{g:Int->Int->Bool}
  (rule:∀(i j:Int)(t u:Tok)(s:Shared)(Q:QV)(E:QV),Q (.bool (g i j)) s->wq X (f (.int i t) (.int j u)) Q E s):
  cB X f (Lg λi j=>.bl (g i j)):=by
 intro af s σ H x y v u Q I M O h;obtain⟨i,j,rfl,rfl,q⟩:=h;obtain⟨t,rfl⟩:=M;obtain⟨t',rfl⟩:=O;exact rule i j t t' s _ _ ⟨.bl _,H,I,rr,q⟩
def TR (i j:Int):Prop:=0<j/\j<1073741824
def TU (i j:Int):Prop:=0<=j/\j<=1000000/\i.natAbs<2 ^ 64
def L4 (i j:Int):Prop:=(-(2 ^ 64)<i/\i<2 ^ 64)\/(-(2 ^ 64)<j/\j<2 ^ 64)
def L4.ok (h:L4 i j):IntMulOk i j:=by
 rcases h with⟨h1,h2⟩|⟨h1,h2⟩
 .exact .of_left (intBits_le_64 h1 h2)
 .exact .of_right (intBits_le_64 h1 h2)
def PU:cB X (binaryOp .Add) (Lg λi j=>.int (i+j)):=PR λ_ _ _ _ _ _ _ q=>add_int q
def PX:cB X (binaryOp .Sub) (Lg λi j=>.int (i - j)):=PR λ_ _ _ _ _ _ _ q=>sub_int q
def PY:cB X (binaryOp .Mult) (rI L4 λi j=>.int (i*j)):=TQ λ_ _ _ _ _ _ _ hc q=>mul_int q hc.ok
def L5:cB X (binaryOp .FloorDiv) (rI TR λi j=>.int (i / j)):=TQ λi j _ _ _ _ _ hc q=>by
 have h1:=hc.1;have h2:=hc.2;grind[floordiv_int,PyProof.noPylong_small]
def PZ:cB X (binaryOp .Mod) (rI (λ_ j=>0<j) λi j=>.int (i % j)):=TQ λi j _ _ _ _ _ hc q=>by
 exact mod_int' N9 (by rw[Int.fmod_eq_emod_of_nonneg i N9];exact q)
def Qa:cB X (binaryOp .Pow) (rI TU λi j=>.int (i ^ j.toNat)):=TQ λ_ _ _ _ _ _ _ hc q=>pow_int_small hc.1 hc.2.1 hc.2.2 q
def Qb:cB X (binaryOp .BitAnd) (Lg λi j=>.int (Builtin.bitAnd i j)):=PR λ_ _ _ _ _ _ _ q=>and_int q
def unI {f:Value->Sem Value}{g:Int->Int}
  (rule:∀(i:Int)(t:Tok)(s:Shared)(Q:QV)(E:QV),Q (.int (g i) s.toks) { s with toks:=s.toks+1 }->wq X (f (.int i t)) Q E s):
  TL X f (rU λi=>.int (g i)):=by
 intro af s σ H x v Q I M h;obtain⟨i,rfl,q⟩:=h;obtain⟨t,rfl⟩:=M;exact rule i t s _ _ ⟨.int _,H,I.tok _,⟨_,rr⟩,q⟩
def Qc:TL X (unaryOp .USub) (rU λi=>.int (-i)):=unI λ_ _ _ _ _ q=>neg_int q
def DR:cB X (binaryOp .Add) (λx y H Q=>∃i k,x=.int i/\y=.bl k/\Q (.int (i+b2i k)) H):=by
 intro af s σ H x y v u Q I M O h;obtain⟨i,k,rfl,rfl,q⟩:=h;obtain⟨t,rfl⟩:=M;cases O
 exact add_int_bool ⟨.int _,H,I.tok _,⟨_,rr⟩,q⟩
end
section
variable {X:Cx}{a b c:Expr}{ta tb tc:TE}{pos:Pos}
def TV:cB X (compareOp .Lt) (Lg λi j=>.bl (decide (i<j))):=L3 λ_ _ _ _ _ _ _ q=>lt_int q
def TW:cB X (compareOp .LtE) (Lg λi j=>.bl (decide (i<=j))):=L3 λ_ _ _ _ _ _ _ q=>le_int q
def TX:cB X (compareOp .Gt) (Lg λi j=>.bl (decide (j<i))):=L3 λ_ _ _ _ _ _ _ q=>gt_int q
def TY:cB X (compareOp .GtE) (Lg λi j=>.bl (decide (j<=i))):=L3 λ_ _ _ _ _ _ _ q=>ge_int q
def L6 (ho:cB X (compareOp op) r)(ha:PE X a ta)(hb:PE X b tb)(hm:behindInMarks op b=false):PE X (.Compare a [op] [b] pos) (WH r ta tb):=by
 intro af s σ H Q I h;exact wpAny_Compare1 (PQ ha hb I h λv u s2 x y H2 M O U q=>ho _ s2 σ H2 x y v u Q M O U q) hm
def O8 (t:TE):TT:=λσ H Q=>t σ H λx H'=>∃k,x=.bl k/\Q k H'
def BM {op:CmpOp}{r:R2}(ho:cB X (compareOp op) r)(ha:PE X a ta)(hb:PE X b tb)(hm:behindInMarks op b=false):PT X (.Compare a [op] [b] pos) (O8 (WH r ta tb)):=by
 intro af s σ H Q I h;refine wpAny_isTrue_Compare1 (bI (ha _ s σ H _ I h) λv s1 ⟨x,M,O,U,d⟩=>bI (hb _ s1 σ M _ O d) λu s2 ⟨y,H2,f,g,q2⟩=>
  bI (ho _ s2 σ H2 x y v u _ f U g q2) λc n ⟨z,i,j,l,k,e,m⟩=>?_) hm
 subst e;cases l
 exact wpAny_truthy_bool ⟨i,j,m⟩
def As (r O:R2)(ta tb tc:TE):TE:=λσ H Q=>ta σ H λx U=>tb σ U λy H2=>r x y H2 λz M=>∃k,z=.bl k /\
 (if k=true then tc σ M λd e=>O y d e Q else Q (.bl false) M)
def FV {op M:CmpOp}{r U:R2}(ho:cB X (compareOp op) r)(O:cB X (compareOp M) U)(ha:PE X a ta)(hb:PE X b tb)(hc:PE X c tc)
  (hm:lastMarks [op,M] [b,c]=false:=by with_unfolding_all rfl):PE X (.Compare a [op,M] [b,c] pos) (As r U ta tb tc):=by
 intro af s σ H Q I h;refine Compare_chain (bI (ha _ s σ H _ I h) λv s1 ⟨x,l,m,n,o⟩=>chain_link (bI (hb _ s1 σ l _ m o) λu s2 ⟨y,H2,p,f,q2⟩=>
  bI (ho _ s2 σ H2 x y v u _ p n f q2) λd q ⟨z,g,i,t,k,e,j⟩=>?_)) hm
 subst e;cases t
 refine wpAny_truthy_bool ?_;cases k with
 |false=>exact ite_ff ⟨.bl _,g,i,rr,j⟩
 |true=>exact ite_tt (chain_last (bI (hc _ q σ g _ i j) λw A ⟨B,C,D,E,F⟩=>O _ A σ C y B u w Q D f E F))
def FW {op M:CmpOp}{r U:R2}(ho:cB X (compareOp op) r)(O:cB X (compareOp M) U)(ha:PE X a ta)(hb:PE X b tb)(hc:PE X c tc)
  (hm:lastMarks [op,M] [b,c]=false:=by with_unfolding_all rfl):PT X (.Compare a [op,M] [b,c] pos) (O8 (As r U ta tb tc)):=by
 intro af s σ H Q I h;refine isTrue_chain (bI (ha _ s σ H _ I h) λv s1 ⟨x,l,m,n,o⟩=>test_link (bI (hb _ s1 σ l _ m o) λu s2 ⟨y,H2,p,f,q2⟩=>
  bI (ho _ s2 σ H2 x y v u _ p n f q2) λd q ⟨z,g,i,t,k,e,j⟩=>?_)) hm
 subst e;cases t
 refine wpAny_truthy_bool ?_;cases k with
 |false=>
  obtain⟨k',w,A⟩:=j;cases w
  exact ite_ff ⟨g,i,A⟩
 |true=>
  refine ite_tt (test_last (bI (hc _ q σ g _ i j) λB C ⟨D,E,F,G,J⟩=>bI (O _ C σ E y D u B _ F f G J) λd' R ⟨S,K,L,N,k2,e2,P⟩=>?_));subst e2;cases N
  exact wpAny_truthy_bool ⟨K,L,P⟩
def mU:(sizeLine:Nat)<2 ^ 63:=O9
def Au:cB X (binaryOp .Add) (λx y H Q=>∃i j,x=.str i/\y=.str j/\i.length+j.length<=sizeLine/\Q (.str (i++j)) H):=by
 intro af s σ H x y v u Q I M O h;obtain⟨i,j,rfl,rfl,hz,q⟩:=h;obtain⟨t,rfl⟩:=M;obtain⟨t',rfl⟩:=O;exact add_str (λt' tk=>⟨.str _,H,I.tok _,⟨_,rr⟩,q⟩) hz
def eC (r:aL [x] us):∃u,us=[u]/\aF x u:=by
 cases r with
 |cons M O=>cases O;exact⟨_,rr,M⟩
def BN (r:aL [x,y] us):∃u M,us=[u,M]/\aF x u/\aF y M:=by
 cases r with
 |cons O U=>
  cases U with
  |cons d e=>cases e;exact⟨_,_,rr,O,d⟩
def DS (hc:X.calm=true):bg X (.builtin "max") (λxs H Q=>∃i j,xs=[.int i,.int j]/\Q (.int (if j > i then j else i)) H):=by
 intro af s σ H xs us Q I r h;obtain⟨i,j,rfl,q⟩:=h;obtain⟨u,M,rfl,⟨t,rfl⟩,⟨t',rfl⟩⟩:=BN r;refine max_two_ints (I.ok.hd hc) λh' tk k=>⟨_,H,I.kept k,?_,q⟩;by_cases hj:j > i
 .rw[if_pos hj,if_pos hj];exact⟨_,rr⟩
 .rw[if_neg hj,if_neg hj];exact⟨_,rr⟩
def DT (hc:X.calm=true):bg X (.builtin "min") (λxs H Q=>∃i j,xs=[.int i,.int j]/\Q (.int (if j<i then j else i)) H):=by
 intro af s σ H xs us Q I r h;obtain⟨i,j,rfl,q⟩:=h;obtain⟨u,M,rfl,⟨t,rfl⟩,⟨t',rfl⟩⟩:=BN r;refine min_two_ints (I.ok.hd hc) λh' tk k=>⟨_,H,I.kept k,?_,q⟩;by_cases hj:j<i
 .rw[if_pos hj,if_pos hj];exact⟨_,rr⟩
 .rw[if_neg hj,if_neg hj];exact⟨_,rr⟩
def DU:bg X (.type "int") (λxs H Q=>(∃i,xs=[.int i]/\Q (.int i) H)\/∃k,xs=[.bl k]/\Q (.int (if k then 1 else 0)) H):=by
 intro af s σ H xs us Q I r h;rcases h with⟨i,rfl,q⟩|⟨k,rfl,q⟩
 .obtain⟨u,rfl,t,rfl⟩:=eC r;exact call_int_int ⟨.int i,H,I,⟨_,rr⟩,q⟩
 .obtain⟨u,rfl,M⟩:=eC r;cases M
  exact call_int_bool ⟨.int _,H,I.tok _,⟨_,rr⟩,q⟩
end
structure Ot (h:Heap)(x dx C:Addr)(mA:Str->Option Value):Prop where
 obj:h.get? x=some (PySem.W.instObj C dx)
 ns:h.Ns1 dx mA
 ne:dx≠x
def DV {h:Heap}{dx:Addr}{mA:SV}(n:h.Ns1 dx mA):∃od,h.get? dx=some od/\∀name,PySem.W.lookIn name od=some (mA name):=by
 obtain⟨o,es,O,ho,hd,hk,_,hm⟩:=n;refine⟨o,ho,λname=>?_⟩;have e:=hm name;unfold nsFind findBy at e;rw[<-Array.find?_toList]at e;unfold PySem.W.lookIn;rw[hd];dsimp;split
 .simp_all
 .have a:es.toList.any (·.refKey)=false:=by
   rw[any_eq_false];intro y hy;obtain⟨z,t,M⟩:=hk y (Array.mem_toList_iff.mp hy);simp[DictEntry.refKey,M]
  split<;>simp_all
def Ot.look (I:Ot h x dx C mA):∃od,PySem.W.InstAt h x (PySem.W.instObj C dx) C (some od)/\∀name,PySem.W.lookIn name od=some (mA name):=
 let ⟨od,ho,hl⟩:=DV I.ns
 ⟨od,⟨I.obj,rr,rr,ho⟩,hl⟩
section
variable {prog:Program}{w:World}{A:Around}{E:QV}{s:Shared}{K:Frag}{x dx C f:Addr}{mA:SV}{name:Str}{v:Value}
end
def kH.some_of (r:kH (some v) o):∃u,o=some u/\aF v u:=by
 cases o with
 |none=>exact(show False from r).elim
 |some u=>exact⟨u,rr,r⟩
section
variable {P:Program}{w:World}{H H':Hp}{h h':Heap}{a C dx:Addr}{fs Yr:List (Str×V)}
def BO (hok:kI P w H h)(e:H a=some (.ins C dx fs)):∃mA,Ot h a dx C mA/\(∀f,kH (fs.lookup f) (mA f))/\PySem.Within mA (fs.map (·.1))/\fs.length<=1000/\H dx=some (.own a):=by
 obtain⟨d,z,ne,ob,mA,n,r,q⟩:=(show bf P w H h a _ from hok a _ e);exact⟨mA,⟨ob,n,ne⟩,r,q,z,d⟩
end
structure Cls (K:Frag)(C:Addr):Prop where
 pg:PySem.W.plainGet K C Str.empty=true
 hd:PySem.W.hasDictIn K C=true
 po:PySem.W.plainOver K C=true
 sa:PySem.W.findIn K (.ref C) "__setattr__" = some (some (.builtin "object.__setattr__"))
def Cls.get {K:Frag}{C:Addr}(c:Cls K C)(f:Str):PySem.W.plainGet K C f=true:=c.pg
structure Meth (K:Frag)(C:Addr)(m:Str)(f:Addr):Prop where
 at_:PySem.W.findIn K (.ref C) m=some (some (.ref f))
 fn:PySem.W.isFn K (.ref f)=true
 kp:PySem.W.keepIn K (.ref f)=true
section
variable {X:Cx}{af:AO}{σ:St}{H:Hp}{s:Shared}{a C dx:Addr}{fs:List (Str×V)}{f:Str}{v:V}{A:Around}{E:QV}
end
section
variable {X:Cx}{o e value:Expr}{f:Str}{pos KR Sr:Pos}{ta tv:TE}
end
section
variable {X:Cx}{af:AO}{σ:St}{H:Hp}{s:Shared}{A:Around}{E:QV}{Q:QV}{c:Value}{b:Bool}
inductive TyOf (K:Frag)(H:Hp):V->Value->Prop where
 |non:TyOf K H .non (.type "NoneType")
 |bl (x:Bool):TyOf K H (.bl x) (.type "bool")
 |int (i:Int):TyOf K H (.int i) (.type "int")
 |str (x:Str):TyOf K H (.str x) (.type "str")
 |flt (x:UInt64):TyOf K H (.flt x) (.type "float")
 |lst {a:Addr}{xs:List V}(e:H a=some (.lst xs)):TyOf K H (.ref a) (.type "list")
 |frz {a:Addr}{o:Obj}{xs:List V}(e:H a=some (.frz o (.lst xs))):TyOf K H (.ref a) (.type "list")
 |tup {a:Addr}{xs:List V}(e:H a=some (.tup xs)):TyOf K H (.ref a) (.type "tuple")
 |dK {a:Addr}{a8:List (cZ×V)}{ob:Obj}(e:H a=some (.dK a8 ob)):TyOf K H (.ref a) (.type "dict")
 |dT {a:Addr}{a8:List (List cZ×V)}(e:H a=some (.dT a8)):TyOf K H (.ref a) (.type "dict")
 |ins {a C dx:Addr}{fs:List (Str×V)}(e:H a=some (.ins C dx fs)) (cl:Cls K C) (ha:PySem.W.findIn K (.ref C) "__class__" = some (some (.builtin "object.__class__")))
   (hn:PySem.W.specialIn K (.builtin "object.__class__") "__get__" = some (some (.builtin "getset_descriptor.__get__"))) (ZZ:PySem.W.takesIn K (.builtin "object.__class__")=some true)
   (hm:PySem.W.mroIn K C (.type "object")=some true):TyOf K H (.ref a) (.ref C)
def fJ (I:Inv X af σ H s)(M:aF x u)(ty:TyOf X.K H x t)(e:PySem.W.kitOne X.K t c=some b)(h:∀tk,Q (.bool b) { s with toks:=tk }):
  wpAny (model X.prog X.w) A (call (.builtin "isinstance") [u,c]) Q E s:=by
 cases ty with
 |non=>cases (show u=Value.none from M);exact kia_one PySem.W.kitx_none I.kIn True.intro e (λz=>nomatch z) h
 |bl y=>cases (show u=Value.bool y from M);exact kia_one PySem.W.kitx_bool I.kIn True.intro e (λz=>nomatch z) h
 |int i=>obtain⟨t,q⟩:=(show ∃t,u=Value.int i t from M);cases q;exact kia_one PySem.W.kitx_int I.kIn True.intro e (λz=>nomatch z) h
 |str y=>obtain⟨t,q⟩:=(show ∃t,u=Value.str y t from M);cases q;exact kia_one PySem.W.kitx_str I.kIn True.intro e (λz=>nomatch z) h
 |flt y=>obtain⟨t,q⟩:=(show ∃t,u=Value.float y t from M);cases q;exact kia_one PySem.W.kitx_float I.kIn True.intro e (λz=>nomatch z) h
 |@lst a xs U=>
  cases (show u=Value.ref a from M)
  obtain⟨_,_,n,_,h1⟩:=(show bf X.prog X.w H s.heap a (.lst xs)from I.hok a _ U);exact kia_one PySem.W.kitx_list I.kIn ⟨_,h1,rr⟩ e (λz=>nomatch z) h
 |@frz a ob xs U=>
  cases (show u=Value.ref a from M)
  obtain⟨_,_,_,n,_,h1⟩:=(show bf X.prog X.w H s.heap a (.frz ob (.lst xs))from I.hok a _ U);exact kia_one PySem.W.kitx_list I.kIn ⟨_,h1,rr⟩ e (λz=>nomatch z) h
 |@tup a xs U=>
  cases (show u=Value.ref a from M)
  obtain⟨_,_,_,p⟩:=(show bf X.prog X.w H s.heap a (.tup xs)from I.hok a _ U);obtain⟨o,h1,h2,_⟩:=p;exact kia_one PySem.W.kitx_tuple I.kIn ⟨o,h1,h2⟩ e (λz=>nomatch z) h
 |@dK a a8 ob U=>
  cases (show u=Value.ref a from M)
  obtain⟨_,_,_,vs,_,p⟩:=(show bf X.prog X.w H s.heap a (.dK a8 ob)from I.hok a _ U);obtain⟨o,es,d,h1,h2,_⟩:=p;exact kia_one PySem.W.kitx_dict I.kIn ⟨o,h1,h2.1⟩ e (λz=>nomatch z) h
 |@dT a a8 U=>
  cases (show u=Value.ref a from M)
  obtain⟨_,_,xs,_,o,es,d,h1,h2,_⟩:=(show bf X.prog X.w H s.heap a (.dT a8)from I.hok a _ U);exact kia_one PySem.W.kitx_dict I.kIn ⟨o,h1,h2.1⟩ e (λz=>nomatch z) h
 |@ins a C dx fs U cl ha hn ZZ hm=>
  cases (show u=Value.ref a from M)
  obtain⟨mA,O,_⟩:=BO I.hok U;obtain⟨od,J,_⟩:=O.look;exact kia_one (PySem.W.kitx_own (cl.get _) cl.hd ha hn ZZ hm) I.kIn J e (λz=>nomatch z) h
end
structure dq (k:Nat)(A:Around):Prop where
 hd:A.handled=none
 dp:A.depth+3*k+5<recursionLimit
 un:A.units+16*k+200<cLine
def dq.mono (r:dq k A)(h:j<=k):dq j A:=⟨r.hd,by have:=r.dp;lia,by have:=r.un;lia⟩
def dq.deeper (r:dq (k+1) A)(env:Env):dq k (A.deeper env):=
 ⟨r.hd,by have:=r.dp;show A.depth+1+3*k+5<_;lia,by have:=r.un;simp<;>lia⟩
def dq.in1 (r:dq (k+1) A):dq k A.in1:=
 ⟨r.hd,by have:=r.dp;lia,by have:=r.un;lia⟩
def dq.depth (r:dq k A):A.depth<recursionLimit:=by have:=r.dp;lia
def Ua:TA:=λ_ H Q=>Q [] H
def OA (ta:TE)(M:TA):TA:=λσ H Q=>ta σ H λx O=>M σ O λxs H2=>Q (x::xs) H2
section
variable {X:Cx}{e:Expr}{es:QD}{te:TE}{t:TA}{pos:Pos}
def f6:PA X [] Ua:=λ_ _ _ _ H Q I h=>Calls.spliced_nil ⟨[],H,I,.nil,h⟩
def dB (ha:PE X e te)(M:PA X es t)(hs:starEach (e::es) X.env=(false,eval e X.env)::starEach es X.env:=by rfl):PA X (e::es) (OA te t):=by
 intro pos af s σ H Q I h;rw[hs];refine Calls.spliced_cons (bI (ha _ s σ H _ I h) λu s1 ⟨x,O,U,a,b⟩=>?_);exact bI (M _ _ s1 σ O _ U b) λus s2 ⟨xs,H2,c,d,q2⟩=>⟨x::xs,H2,c,.cons a d,q2⟩
def Ub (t:TA):TE:=λσ H Q=>t σ H λxs M=>xs.length<=sizeLine/\∀p,M p=none->Q (.ref p) (upd M p (.tup xs))
def Xw (t:TA):TE:=λσ H Q=>t σ H λxs M=>xs.length<=sizeLine/\∀p,M p=none->Q (.ref p) (upd M p (.lst xs))
def Aw {U}(h:PA X es t):PE X (.Tuple es U pos) (Ub t):=by
 intro af s σ H Q I hq;refine wpAny_Tuple_spliced (bI (h _ _ s σ H _ I hq) λus s1 ⟨xs,O,M,r,z,q⟩=>⟨by rw[<-r.length];exact z,?_⟩);have hf:=M.hok.fresh (vT _);refine⟨.ref _,upd O _ _,M.laid (λb u e=>vZ _ e) (vT _) ?_,rr,q _ hf⟩;exact⟨z,us,r,⟨_,vY _ rr,rr,_,rr⟩⟩
def Qe (h:PA X es t):PE X (.List es pos) (Xw t):=by
 intro af s σ H Q I hq;refine wpAny_List_spliced (bI (h _ _ s σ H _ I hq) λus s1 ⟨xs,O,M,r,z,q⟩=>⟨by rw[<-r.length];exact z,?_⟩);have hf:=M.hok.fresh (vT _);refine⟨.ref _,upd O _ _,M.laid (λb u e=>vZ _ e) (vT _) ?_,rr,q _ hf⟩;exact⟨z,us,0,r,vY _ rr⟩
end
abbrev Sp:=List V->Hp->VK->XK->Prop
abbrev L7:=List Env->Hp->Shared->XK->QV
structure Env0 (P:Program)(w:World)(K:Frag)(mg:Str->Option Value)(base:Heap)(A:Around)(outer:List Env)(s:Shared)(H:Hp):Prop where
 frames:A.frames=some outer
 mod:Mod K mg base
 bs:∀b o,base.get? b=some o->s.heap.get? b=some o/\H b=none
 bsz:base.objs.size<=s.z
 funs:s.heap.FunFrames base outer
 frf:∀b∈FJ outer,H b=none
 hok:kI P w H s.heap
 bare:AllBare s.gens
def CE (outer:List Env)(P:Program)(w:World)(H:Hp)(s:Shared)(Q:VK)(u:Value)(s':Shared):Prop:=
 ∃v H',s'.os=s.os/\AllBare s'.gens/\Un (FJ outer) [] H H' s.heap s'.heap/\kI P w H' s'.heap/\aF v u/\Q v H'
def CR (CX:L7)(outer:List Env)(P:Program)(w:World)(H:Hp)(s:Shared)(Q:VK)(E:XK)(r:Result)(s':Shared):Prop:=
 match r with
 |.ok (.ret u)=>CE outer P w H s Q u s'
 |.ok _=>False
 |.error e=>CX outer H s E e s'
structure mO (P:Program)(w:World)(K:Frag)(mg:Str->Option Value)(base:Heap)(CX:L7)(k:Nat)(f:Addr)(fd:FuncData)(ps:List Str)(sp:Sp):Prop where
 len:∀vs H Q E,sp vs H Q E->vs.length=ps.length
 run:∀(A:Around)(outer:List Env)(s:Shared)(H:Hp)(args:Args)(us:List Value)(vs:List V)(Q:VK)(E:XK),dq k A->Env0 P w K mg base A outer s H->BindsTo s fd args (ps.zip us)->aL vs us->sp vs H Q E ->
  codeAny (model P w) A (.call (.ref f) args) (CR CX outer P w H s Q E) s
section
variable {X:Cx}{af:AO}{σ:St}{H:Hp}{s s':Shared}
def Inv.env0 (I:Inv X af σ H s):Env0 X.prog X.w X.K X.mg X.base X.A X.stack s H:=
 ⟨I.ok.frames,I.ok.mod,I.bs,vR I.ok.bsz I.sz,I.stack,I.stkFree,I.hok,I.bare⟩
def Inv.after (I:Inv X af σ H s)(h:CE X.stack X.prog X.w H s Q u s'):EP X af σ Q u s':=by
 obtain⟨v,H',os,bare,un,hok,r,q⟩:=h;obtain⟨hh,g,d,t,M⟩:=s';obtain rfl:M=s.os:=os;exact⟨v,H',I.call un hok bare (λb z=>absurd z H9),r,q⟩
end
def Uc (sp:Sp)(M:List V)(E:XK)(t:TA):TE:=λσ H Q=>t σ H λvs O=>sp (vs++M) O Q E
def oy (K:Frag)(fd:FuncData)(ps:LS)(ds:LU):Prop:=
 ∀(s:Shared)(us:LU),K.In s.heap->(us++ds).length=ps.length->BindsTo s fd ⟨us,[]⟩ (ps.zip (us++ds))
def oy.all {K:Frag}{fd:FuncData}{ps:LS}(h:∀us:LU,us.length=ps.length->bindArgs fd ⟨us,[]⟩=pure (ps.zip us)):oy K fd ps []:=λs us _ hl=>by
 rw[uQ]at hl |-;exact .of_eq (h us hl)
def Ax (CX:L7)(X:Cx)(E:XK):Prop:=∀(af:AO)(σ:St)(H:Hp)(s:Shared)(e:Value)(s':Shared),Inv X af σ H s->CX X.stack H s E e s'->X.xe e s'
section
variable {X:Cx}{CX:L7}{k:Nat}{f C:Addr}{fd:FuncData}{ps:LS}{sp:Sp}{VX:List V}{ds:LU}{E:XK}{x m:Str}{p pos cm:Pos}{e o:Expr}{es:QD}{ta:TE}{t:TA}
def Qf {af:AO}{σ:St}{H:Hp}{s:Shared}{Q:VK}{us:LU}{vs:List V}(F:mO X.prog X.w X.K X.mg X.base CX k f fd ps sp)(O:dq k X.A)(hb:oy X.K fd ps ds)(hd:aL VX ds)(hx:Ax CX X E)
  (I:Inv X af σ H s) (r:aL vs us) (h:sp (vs++VX) H Q E):wq X (call (.ref f) us) (EP X af σ Q) X.xe s:=by
 have M:=r.append hd;have hl:(us++ds).length=ps.length:=by rw[<-M.length];exact F.len _ _ _ _ h
 refine wpAny_call (codeAny_mono (F.run _ _ s H _ _ _ Q E O I.env0 (hb s us I.kIn hl) M h) λr s' hq=>?_);cases r with
 |error e=>exact hx _ σ H s e s' I hq
 |ok fl=>
  cases fl with
  |ret u=>exact I.after hq
  |next=>exact False.elim hq
  |brk=>exact False.elim hq
  |cont=>exact False.elim hq
def L8 (F:mO X.prog X.w X.K X.mg X.base CX k f fd ps sp)(a:dq k X.A)(b:Gl X x)(hm:X.mg x=some (.ref f))(hk:PySem.W.keepIn X.K (.ref f)=true)(hb:oy X.K fd ps ds)(hd:aL VX ds)(hx:Ax CX X E)
  (ha:PA X (e::es) t) (M:(x == ("__debug__" : Str))=false:=by decide) (he:starEach (e::es) X.env=(false,eval e X.env)::starEach es X.env:=by rfl) (O:(backTo pos (starEach es X.env)).any (·.1)=false:=by rfl):
  PE X (.Call (.Name x p) (e::es) [] pos) (Uc sp VX E t):=by
 intro af s σ H Q I h;refine wpAny_Call_Name_kw (vh I b hm ?_ M);refine PySem.W.callWith_K I.ok.mod.kin hk (bI (ha _ _ s σ H _ I h) λus s1 ⟨vs,c,U,r,q⟩=>⟨U.kIn,?_⟩) he O;exact Qf F a hb hd hx U r q
end
structure FnScope (N P:List Str)(sc:Scope):Prop where
 kind:sc.kind=.function
 co:sc.isCoroutine=false
 gen:sc.isGenerator=false
 nd:N.Nodup
 pre:N.take P.length=P
 par:∀x∈P,sc.names.lookup x=some .local\/sc.names.lookup x=some .cell
 nofree:∀y∈sc.names,y.2≠.free
theorem tJ {kindOf:Str->Option NameKind}{x:Str}:∀ {binds:List (Str×Value)}{m:SV},(∀v,(x,v)∉binds)->bindL kindOf binds m x=m x
 |[],_,_=>rr
 | (n,v)::r,m,h=>by
  unfold bindL;rw[tJ λw hw=>h w (mZ _ hw)];split
  .grind
  .rfl
theorem tK {kindOf:Str->Option NameKind}{x:Str}:∀ {binds:List (Str×Value)}{m:SV},(∀v,(x,v)∉binds)->bindC kindOf binds m x=m x
 |[],_,_=>rr
 | (n,v)::r,m,h=>by
  unfold bindC;rw[tK λw hw=>h w (mZ _ hw)];split
  .rfl
  grind
theorem tL {kindOf:Str->Option NameKind}{x:Str}{v:Value}:∀ {P:LS}{vs:LU}{i:Nat}{m:SV},P.Nodup->P[i]? = some x->vs[i]? = some v->kindOf x=some .local ->
  bindL kindOf (P.zip vs) m x=some v
 |[],_,_,_,_,h,_,_=>by simp at h
 |_::_,[],_,_,_,_,h,_=>by simp at h
 |p::P,w::vs,0,m,nd,h1,h2,hk=>by
  simp at h1 h2;subst h1;subst h2;show bindL _ ((p,w)::P.zip vs) m p=_;unfold bindL;rw[tJ λv hv=>(nodup_cons.mp nd).1 (of_mem_zip hv).1,if_pos hk];simp
 |p::P,w::vs,i+1,m,nd,h1,h2,hk=>by
  unfold bindL;exact tL (nodup_cons.mp nd).2 (by simpa using h1) (by simpa using h2) hk
theorem tM {kindOf:Str->Option NameKind}{x:Str}{v:Value}:∀ {P:LS}{vs:LU}{i:Nat}{m:SV},P.Nodup->P[i]? = some x->vs[i]? = some v->kindOf x≠some .local ->
  bindC kindOf (P.zip vs) m x=some v
 |[],_,_,_,_,h,_,_=>by simp at h
 |_::_,[],_,_,_,_,h,_=>by simp at h
 |p::P,w::vs,0,m,nd,h1,h2,hk=>by
  simp at h1 h2;subst h1;subst h2;show bindC _ ((p,w)::P.zip vs) m p=_;unfold bindC;rw[tK λv hv=>(nodup_cons.mp nd).1 (of_mem_zip hv).1,if_neg hk];simp
 |p::P,w::vs,i+1,m,nd,h1,h2,hk=>by
  unfold bindC;exact tM (nodup_cons.mp nd).2 (by simpa using h1) (by simpa using h2) hk
noncomputable def kK (N:LS)(vs:List V):St:=vs.map some++List.replicate (N.length - vs.length) none
noncomputable def pf (CX:L7)(P:Program)(w:World)(K:Frag)(mg:SV)(base:Heap)(N:LS)(qual:Str)(scope:Scope)(f:Addr)(cd:Value)(A:Around)(outer:List Env)(s:Shared)(H:Hp)(E:XK):Cx where
 prog:=P
 w:=w
 K:=K
 mg:=mg
 base:=base
 A:=A.deeper (envOfC qual scope s.z f cd)
 N:=N
 s₀:=s
 H₀:=H
 env:=envOfC qual scope s.z f cd
 outer:=outer
 stack:=envOfC qual scope s.z f cd::outer
 ex:=[]
 calm:=true
 fn:=λ_=>true
 pn:=[]
 xe:=λe s'=>wpAny (model P w) (A.deeper (envOfC qual scope s.z f cd)) (leaving (envOfC qual scope s.z f cd) e) (λ_ M=>CX outer H s E e M) (λO M=>CX outer H s E O M) s'
def pO {sc:Scope}{n:Nat}{x:Str}(h:sc.names.lookup x=some .cell):∃c,(cellsFrom n sc.names []).lookup x=some c:=by
 have q:=PySem.W.cellsFrom_some _ n [] (.inl h);exact uU q
def DW {CX:L7}{P:Program}{w:World}{K:Frag}{mg:SV}{base:Heap}{N ps:LS}{qual:Str}{scope:Scope}{f:Addr}{cd:Value}{A:Around}{outer:List Env}{s s1:Shared}{H:Hp}{E:XK}{us:LU}{vs:List V}
  (S:FnScope N ps scope) (hd:A.handled=none) (M:Env0 P w K mg base A outer s H) (hl:vs.length=ps.length) (r:aL vs us)
  (x:InCallC s s.z (bindL (envOfC qual scope s.z f cd).kindOf (ps.zip us) λ_=>none) (cellsFrom (s.z+1) scope.names []) (bindC (envOfC qual scope s.z f cd).kindOf (ps.zip us) λ_=>none) s1):
  Inv (pf CX P w K mg base N qual scope f cd A outer s H E) [] (kK N vs) H s1:=by
 have d:ps.length<=N.length:=by have:=congrArg List.length S.pre;grind
 obtain⟨h1,tk,rfl,hk⟩:=x.done;have O:∀b:Addr,b∉(pf CX P w K mg base N qual scope f cd A outer s H E).ex:=λb z=>absurd (show b∈([]:List Addr)from z) H9;refine⟨⟨M.mod,S.kind,rr,rr,vT _,λy z c h1 h2=>?_,λy hy=>?_,λy c _ h=>?_,λ_=>hd,Around.frames_deeper M.frames,.inr ⟨rr,rr⟩,λb z=>absurd z (O b),M.bs,M.bsz,λb _ _=>O b,λb z=>absurd z (O b),M.funs,M.frf⟩,
  rr,M.bare,Un.kept hk,⟨_,x.toInCall.ns,λi y v h1 h2 h3=>?_⟩,λy c h=>⟨_,x.cell y c h⟩,M.hok.fresh (vT _),λy c h=>?_,λp hp=>absurd (show p∈([]:AO)from hp) H9,M.hok.kept hk,?_⟩
 .exact name_of_addr x.apart (PySem.mem_of_lookup h1) (PySem.mem_of_lookup h2)
 .rcases hy with hy|hy
  .exact pO hy
  .exact absurd rr (S.nofree _ (PySem.mem_of_lookup hy))
 .exact le_of_lt (x.above y c (PySem.mem_of_lookup h))
 .have hi:i<vs.length:=by
   unfold kK at h2;by_cases hi:i<vs.length
   .exact hi
   .rw[getElem?_append_right (by simpa using hi)]at h2;rw[List.getElem?_replicate]at h2;split at h2<;>cases h2
  have ha:vs[i]? = some v:=by
   simp_all[kK,getElem?_append_left]
  obtain⟨u,hu,a⟩:=r.get ha;have hp:ps[i]? = some y:=by
   rw[<-S.pre,List.getElem?_take_of_lt N9];exact h1
  have U:ps.Nodup:=by rw[<-S.pre];exact S.nd.sublist (take_sublist _ _)
  refine⟨u,a,?_⟩;rcases S.par y (vL hp)with k|k
  .exact .inl ⟨k,tL U hp hu k⟩
  .obtain⟨c,e⟩:=pO (n:=s.z+1) k;refine .inr ⟨.inl k,c,e,?_⟩;have q:=x.cell y c e;rw[tM U hp hu (by show scope.names.lookup y≠_;rw[k];decide)]at q;exact q
 .exact M.hok.fresh (le_of_lt (x.above y c (PySem.mem_of_lookup h)))
 .unfold kK;show _=N.length;simp_all
def OC {CX:L7}{P:Program}{w:World}{K:Frag}{mg:SV}{base:Heap}{k:Nat}{f:Addr}{name qual:Str}{params:Arguments}{M:List Stmt}{scope:Scope}{h kV doc pm dA ct oc:Value}{an od:Option Addr}
  {mS:Array (Option Value)}{N ps:LS}{sp:Sp}(l:K.lookup f=some ⟨oc,od,.func (fnOf name qual params M scope h kV doc pm an dA ct),mS⟩) (m:PySem.W.codeIn K dA qual=true) (S:FnScope N ps scope)
  (len:∀vs H Q E,sp vs H Q E->vs.length=ps.length)
  (U:∀(A:Around)(outer:List Env)(s:Shared)(H:Hp)(vs:List V)(Q:VK)(E:XK),dq k (A.deeper (envOfC qual scope s.z f dA))->sp vs H Q E ->
   ∃t,tI (pf CX P w K mg base N qual scope f dA A outer s H E) M t/\t { nx:=λ_ H'=>Q .non H',rt:=Q } (kK N vs) H):
  mO P w K mg base CX (k+1) f (fnOf name qual params M scope h kV doc pm an dA ct) ps sp:=by
 refine⟨len,λA outer s H args us vs Q E c a hb r i=>?_⟩;have hl:=len _ _ _ _ i;have j:=a.mod.kin.keeps λb o e=>(a.bs b o e).1;have d:=a.mod.nolimit.keeps λb o e=>(a.bs b o e).1;have p:∀y∈ps.zip us,scope.names.lookup y.1=some _\/(scope.names.lookup y.1=some .cell/\((cellsFrom (s.z+1) _ []).lookup y.1).isSome=true):=λ⟨n,v⟩ hy=>by
  rcases S.par n (of_mem_zip hy).1 with q|q
  .exact .inl q
  .exact .inr ⟨q,PySem.W.cellsFrom_some _ _ _ (.inl q)⟩
 refine codeAny_call_function c.depth (j _ _ l) rr S.co S.gen rr (PySem.W.codeRec_of j m) (hb _ _ _ _ ?_);refine wpAny_newFunctionEnv_cells S.kind p λenv he s1 x=>?_;subst he;refine⟨d.keeps x.toInCall.keep,codeAny_func ?_⟩;obtain⟨t,z,hq⟩:=U A outer s H vs Q E (c.deeper _) i;have I:Inv (pf CX P w K mg base N qual scope f dA A outer s H E) [] _ H s1:=DW S c.hd a hl r x;refine wpAny_mono (z [] s1 _ H _ I hq) (λfl s' hs=>?_) λe s' hs=>hs;have dI:∀ {O:St}{H':Hp}{v:V}{u:Value},Inv (pf CX P w K mg base N qual scope f dA A outer s H E) [] O H' s'->aF v u->Q v H'->CE outer P w H s Q u s':=
  λ{O H' v u} J g q=>⟨v,H',J.os,J.bare,J.base,J.hok,g,q⟩
 cases fl with
 |ret u=>
  obtain⟨v,O,H',J,g,q⟩:=hs;exact dI J g q
 |next=>
  obtain⟨O,H',J,q⟩:=hs;exact dI (v:=V.non) J rr q
 |brk=>
  obtain⟨_,_,_,q⟩:=hs;simp_all
 |cont=>
  obtain⟨_,_,_,q⟩:=hs;simp_all
section
variable {X:Cx}{x:Str}{p pos:Pos}{e:Expr}{es:QD}{t:TA}{id T:String}{r:List V->Hp->VK->Prop}
def ZD (r:List V->Hp->VK->Prop)(t:TA):TE:=λσ H Q=>t σ H λvs M=>r vs M Q
def pP (hc:bg X (.builtin id) r)(U:Gl X x)(hm:X.mg x=none)(hv:bootBuiltins x=some (.builtin id))(ha:PA X (e::es) t)(hn:x ≠ "__name__":=by decide)(M:(x == ("__debug__" : Str))=false:=by decide)
  (he:starEach (e::es) X.env=(false,eval e X.env)::starEach es X.env:=by rfl) (O:(backTo pos (starEach es X.env)).any (·.1)=false:=by rfl):PE X (.Call (.Name x p) (e::es) [] pos) (ZD r t):=by
 intro af s σ H Q I h;refine wpAny_Call_Name_kw (fz I U hm hv ?_ hn M);exact PyProof.Rows.callWith_builtin1 (bI (ha _ _ s σ H _ I h) λus s1 ⟨vs,a,b,c,d⟩=>hc _ s1 σ a vs us Q b c d) he O
def mV (hc:bg X (.type T) r)(U:Gl X x)(hm:X.mg x=none)(hv:bootBuiltins x=some (.type T))(ha:PA X (e::es) t)(hn:x ≠ "__name__":=by decide)(M:(x == ("__debug__" : Str))=false:=by decide)
  (he:starEach (e::es) X.env=(false,eval e X.env)::starEach es X.env:=by rfl) (O:(backTo pos (starEach es X.env)).any (·.1)=false:=by rfl):PE X (.Call (.Name x p) (e::es) [] pos) (ZD r t):=by
 intro af s σ H Q I h;refine wpAny_Call_Name_kw (fz I U hm hv ?_ hn M);exact PyProof.Rows.callWith_type1 (bI (ha _ _ s σ H _ I h) λus s1 ⟨vs,a,b,c,d⟩=>hc _ s1 σ a vs us Q b c d) he O
end
end L2
namespace HT
open PySem PyProof.Rows
section
open PySem.SeqAt
open PySem.AutoSeq1 (wpAny_loadPart')
open PySem.MeetsSeq PySem.MeetsSeq2 PySem.MeetsSeq3
end
section
variable {prog:Program}{w:World}{A:Around}{E:QV}{s:Shared}
def L9 (d:IsTup s.heap t vs.toArray)(hb:IsTup s.heap b ws.toArray)(hv:vs≠[])
  (h1:ws=[]->Q (.ref t) s) (h2:ws≠[]->Q (.ref s.z) { s with heap:=s.heap.push { cls:=.type "tuple",data:=.seq (vs++ws).toArray } })
  (hsz:vs.length+ws.length<=sizeLine):wpAny (model prog w) A (binaryOp .Add (.ref t) (.ref b)) Q E s:=by
 obtain⟨⟨cls,dd,data,sl⟩,ho,hc,n,hd⟩:=id d;obtain⟨⟨f,O,data2,U⟩,M,c,n2,a⟩:=id hb;simp only at hc hd c a;subst hc hd c a;have e:vs.toArray++ws.toArray=(vs++ws).toArray:=H9
 by_cases hw:ws=[]
 .exact concat_meets ⟨_,ho,rr⟩ ⟨_,M,rr⟩ noFill_tuple_add seq_tuple_add slot_tuple_add PySem.F.entry_tuple_add (PySem.F.args_tuple_add_2 _ _)
   (tuple_addW1 t b vs.toArray ws.toArray n n2 dd O sl U (by simpa using hv) (by simp[hw])) ⟨ho,M,h1 hw⟩
 .refine concat_meets ⟨_,ho,rr⟩ ⟨_,M,rr⟩ noFill_tuple_add seq_tuple_add slot_tuple_add PySem.F.entry_tuple_add (PySem.F.args_tuple_add_2 _ _)
   (tuple_addW2 t b vs.toArray ws.toArray n n2 dd O sl U (by simpa using hv) (by simpa using hw) (by simp_all)) ⟨ho,M,?_⟩
  rw[e];exact h2 hw
noncomputable def de (n d:Nat):OI->Nat
 |none=>d
 |some v=>if v<0 then (v+(n:Int)).toNat else min v.toNat n
def FY (n d:Nat):de n d none=d:=rfl
def LA (n d k:Nat):de n d (some (k:Int))=min k n:=by
 rfl
def Qg (n d:Nat)(hd:d<=n)(o:OI):de n d o<=n:=by
 cases o with
 |none=>exact hd
 |some v=>
  show(if v<0 then (v+(n:Int)).toNat else min v.toNat n)<=n;by_cases hv:v<0
  .rw[if_pos hv];lia
  .rw[if_neg hv];exact Nat.min_le_right _ _
def BP (v:Int)(n d:Nat):(if v<0 then max (v+(n:Int)) 0 else min v (n:Int))=((de n d (some v):Nat):Int):=by
 show(if v<0 then max (v+(n:Int)) 0 else min v (n:Int))=(((if v<0 then (v+(n:Int)).toNat else min v.toNat n):Nat):Int);grind
def Ay (lo hi:OI)(n:Nat):Builtin.Slice.sliceAdjust lo hi 1 (n:Int)=(((de n 0 lo:Nat):Int),((de n n hi:Nat):Int)):=by
 have h1:¬((1:Int)<0):=N9
 unfold Builtin.Slice.sliceAdjust;simp only[h1,if_false];refine Prod.ext ?_ ?_
 .cases lo with
  |none=>rfl
  |some v=>exact BP v n 0
 .cases hi with
  |none=>rfl
  |some v=>exact BP v n n
def Az (i j:Nat):Builtin.Slice.slicePlaces (i:Int) (j:Int) 1=j - i:=by
 unfold Builtin.Slice.slicePlaces;simp<;>lia
def pQ (p:IsPart v o)(h:Q o s):wpAny (model prog w) A (Builtin.Slice.slicePartIndex v) Q E s:=by
 cases p with
 |none=>exact slicePart_none h
 |int i t=>exact slicePart_int h
def hG {sl:Addr}{vl U:Value}{lo hi:OI}{n:Nat}{Q:Int×Int×Nat->Shared->Prop}(hs:s.heap.IsSliceOf sl vl U .none)(pl:IsPart vl lo)(a:IsPart U hi)
  (h:Q (((de n 0 lo:Nat):Int),1,de n n hi - de n 0 lo) s):wpAny (model prog w) A (Builtin.Slice.sliceApplied (.ref sl) (pure (n:Int))) Q E s:=by
 obtain⟨os,M,b,O⟩:=id hs;unfold Builtin.Slice.sliceApplied Builtin.Slice.sliceFields;refine wX (wX (wpAny_field M O (x:=vl) rr (wX (wpAny_field M O (x:=U) rr (wX (wpAny_field M O (x:=.none) rr (wY ?_)))))));refine wX (slicePart_none ?_);show wpAny _ _ (if((1:Int) == 0)=true then _ else _) _ _ s;rw[if_neg O9];refine wX (pQ pl (wX (pQ a (wX (wY ?_)))));show wpAny _ _ (match Builtin.Slice.sliceAdjust lo hi 1 (n:Int) with|(lo,hi)=>pure (lo,(1:Int),Builtin.Slice.slicePlaces lo hi 1)) _ _ s;rw[Ay lo hi n];show wpAny _ _ (pure (((de n 0 lo:Nat):Int),(1:Int),Builtin.Slice.slicePlaces ((de n 0 lo:Nat):Int) ((de n n hi:Nat):Int) 1)) _ _ s;rw[Az];exact wY h
def FZ (xs:AV)(i k:Nat):((List.range k).filterMap λ(m:Nat)=>xs[((i:Int)+(m:Int)*1).toNat]?).toArray=((xs.toList.drop i).take k).toArray:=by
 have e:(λ(m:Nat)=>xs[((i:Int)+(m:Int)*1).toNat]?)=λm=>xs[i+m]?:=by
  funext m;have:((i:Int)+(m:Int)*1).toNat=i+m:=N9
  rw[this]
 rw[e];have:=pick_run xs i k;rw[List.filterMap_map]at this;have e2:((λx=>xs[x]?) ∘ λx=>i+x)=λm=>xs[i+m]?:=rr;simp_all
def lO {t sl:Addr}{items:AV}{vl c:Value}{lo hi:OI}{Q:QV}(O:IsTup s.heap t items)(hs:s.heap.IsSliceOf sl vl c .none)(pl:IsPart vl lo)(d:IsPart c hi)
  (hw:¬(de items.size 0 lo=0/\de items.size items.size hi=items.size))
  (h:Q (.ref s.z) { s with heap:=s.heap.push { cls:=.type "tuple",data:=.seq ((items.toList.drop (de items.size 0 lo)).take (de items.size items.size hi - de items.size 0 lo)).toArray } })
  (hsz:items.size<=sizeLine):wpAny (model prog w) A (getItem (.ref t) (.ref sl)) Q E s:=by
 have M:sizeOk (.seq ((items.toList.drop (de items.size 0 lo)).take (de items.size items.size hi - de items.size 0 lo)).toArray):=by
  show((items.toList.drop (de items.size 0 lo)).take (de items.size items.size hi - de items.size 0 lo)).toArray.size<=sizeLine
  exact Nat.le_trans (((items.toList.drop _).take_sublist _).trans (items.toList.drop_sublist _)).length_le hsz
 have hj:de items.size items.size hi<=items.size:=Qg _ _ (vT _) hi
 obtain⟨os,U,e,f⟩:=id hs
 have a:s.TypeIs (.ref sl) "slice":=⟨os,U,e⟩
 unfold getItem
 try with_reducible refine wpAny_holding ?_
 first|refine wX (wY ?_)|skip
 refine wX (wpAny_sequenceKey O.typeIs O9 ?_)
 refine wX (wpAny_callSpecial?_slot (name:=Str.ofString "__getitem__") O.typeIs PyProof.Rows.slot_tuple_getitem
  (wpAny_call_entry PyProof.Rows.slot_tuple_getitem O.typeIs entry_tuple_getitem ?_ (args_tuple_getitem _ _)))
 show wpAny _ _ (Builtin.Tuple.tupleItemsOf (.ref t)>>=_) _ _ s
 refine wX (tupleItemsOf_ O ?_)
 refine wX (wpAny_typeOf a ?_)
 rw[if_pos O9]
 refine wX (hG hs pl d ?_)
 have b:¬((((de items.size 0 lo:Nat):Int) == 0 && (1:Int) == 1 && (de items.size items.size hi - de items.size 0 lo) == items.size)=true):=by
  simp_all
 show wpAny _ _ (if(((de items.size 0 lo:Nat):Int) == 0 && (1:Int) == 1 && (de items.size items.size hi - de items.size 0 lo) == items.size)=true then _ else _) _ _ s
 rw[if_neg b,FZ]
 first
  |exact wX (m:=Builtin.Tuple.tupleExact _) (wpAny_newObj_type (wY ⟨_,rr,wY h⟩) M)
  |exact wX (m:=Builtin.Tuple.tupleExact _) (wpAny_newObj_type (wX (wY (wY ⟨_,rr,wY h⟩))) M)
  |exact wX (wX (m:=Builtin.Tuple.tupleExact _) (wpAny_newObj_type (wY (wY ⟨_,rr,wY h⟩)) M))
  |exact wX (wX (m:=Builtin.Tuple.tupleExact _) (wpAny_newObj_type (wY ⟨_,rr,wY h⟩) M))
end
end HT
namespace L2
open PySem PySem.Spec PyProof.Rows
abbrev TO:=St->Hp->(OI->Hp->Prop)->Prop
def PO (X:Cx)(e:Option Expr)(t:TO):Prop:=
 ∀(af:AO)(s:Shared)(σ:St)(H:Hp)(Q:OI->Hp->Prop),Inv X af σ H s->t σ H Q ->
  wq X (evalPart e X.env) (λu s'=>∃o H',Inv X af σ H' s'/\IsPart u o/\Q o H') X.xe s
def LB:TO:=λ_ H Q=>Q none H
def Ud (t:TE):TO:=λσ H Q=>t σ H λx M=>∃i,x=.int i/\Q (some i) M
section
variable {X:Cx}{e:Expr}{te:TE}{lo hi:Option Expr}{tl th:TO}{pos p2:Pos}
def LC:PO X none LB:=by
 intro af s σ H Q I h;rw[evalPart_none];exact wY ⟨none,H,I,.none,h⟩
def LF (h:PE X e te):PO X (some e) (Ud te):=by
 intro af s σ H Q I hw;rw[evalPart_some];refine bI (h af s σ H _ I hw) λu s1 ⟨x,M,O,U,a⟩=>?_;obtain⟨i,rfl,q⟩:=a;obtain⟨t,rfl⟩:=U;exact⟨some i,M,O,.int i t,q⟩
def F9 (X:Cx)(r:V->OI->OI->Hp->VK->Prop):Prop:=
 ∀(af:AO)(s:Shared)(σ:St)(H:Hp)(x:V)(v vl M:Value)(lo hi:OI)(sl:Addr)(Q:VK),Inv X af σ H s->aF x v->s.heap.IsSliceOf sl vl M .none->IsPart vl lo->IsPart M hi->r x lo hi H Q ->
  ∃T id,typeLookup (.type T) "__getitem__" = pure (some (.builtin id))/\s.TypeIs v T/\wq X (getItem v (.ref sl)) (EP X af σ Q) X.xe s
def F9.or (h:F9 X r)(h':F9 X r'):F9 X (λx lo hi H Q=>r x lo hi H Q\/r' x lo hi H Q):=by
 intro af s σ H x v vl M lo hi sl Q I O hs pl U q;rcases q with q|q
 .exact h af s σ H x v vl M lo hi sl Q I O hs pl U q
 .exact h' af s σ H x v vl M lo hi sl Q I O hs pl U q
def tSl (r:V->OI->OI->Hp->VK->Prop)(te:TE)(tl th:TO):TE:=λσ H Q=>te σ H λx M=>tl σ M λl H2=>th σ H2 λu O=>r x l u O Q
def Ga (a:F9 X r)(he:PE X e te)(hl:PO X lo tl)(hu:PO X hi th):PE X (.Subscript e (.Slice lo hi none p2) pos) (tSl r te tl th):=by
 intro af s σ H Q I h;refine Subscript_ (bI (he af s σ H _ I h) λv s1 ⟨x,c,d,f,g⟩=>?_);refine wpAny_Slice (bI (hl af s1 σ c _ d g) λvl s2 ⟨l,H2,i,pl,q2⟩=>bI (hu af s2 σ H2 _ i q2) λO M ⟨u,U,j,k,m⟩=>?_);rw[evalPart_none];refine wY ?_;have n:Inv X af σ U { M with heap:=M.heap.push { cls:=.type "slice",data:=.fields #[vl,O,.none] } }:=j.kept (t':=M.toks) λb ob q=>vZ _ q;obtain⟨T,id,o,p,t⟩:=a af { M with heap:=M.heap.push { cls:=.type "slice",data:=.fields #[vl,O,.none] } } σ U x v vl O l u M.z Q n f (Heap.IsSliceOf.new ..) pl k m;show wq X (subscriptTail e (.Slice lo hi none p2) v (.ref M.z)) (EP X af σ Q) X.xe { M with heap:=M.heap.push { cls:=.type "slice",data:=.fields #[vl,O,.none] } };exact tail_any (ops:=[.ref M.z,v]) p o t (by with_unfolding_all rfl)
def sY (xs:List V)(lo hi:OI):List V:=(xs.drop (HT.de xs.length 0 lo)).take (HT.de xs.length xs.length hi - HT.de xs.length 0 lo)
def o0 (xs:List V)(lo hi:OI):(sY xs lo hi).length<=xs.length:=by
 unfold sY;rw[length_take,List.length_drop];lia
def Xx (K:Frag):V->OI->OI->Hp->VK->Prop:=λx lo hi H Q=>∃a xs,x=.ref a/\gF K H a xs /\
 ¬(HT.de xs.length 0 lo=0/\HT.de xs.length xs.length hi=xs.length)/\∀p,H p=none->Q (.ref p) (upd H p (.tup (sY xs lo hi)))
def Qh:F9 X (Xx X.K):=by
 intro af s σ H x v vl d lo hi sl Q I U hs pl c h;obtain⟨a,xs,rfl,hx,hw,q⟩:=h;cases U
 obtain⟨its,r,O,hz⟩:=I.tuple hx;have M:its.toArray.size=xs.length:=by rw[vH];exact r.length.symm
 refine⟨"tuple",_,PyProof.Rows.slot_tuple_getitem.lookup,O.typeIs,?_⟩;refine HT.lO O hs pl c (by rw[M];exact hw) ?_ (by rw[M];exact hz);rw[M];refine⟨.ref s.z,_,I.laid (t':=s.toks) (o:=.tup (sY xs lo hi)) (λb ob q=>vZ _ q) (vT _) ?_,rr,q _ (I.hok.fresh (vT _))⟩;exact⟨vR (o0 xs lo hi) hz,_,(r.drop (HT.de xs.length 0 lo)).take (HT.de xs.length xs.length hi - HT.de xs.length 0 lo),IsTup.new _ _⟩
def Ue (K:Frag):R2:=λx y H Q=>∃a b xs ys,x=.ref a/\y=.ref b/\gF K H a xs/\gF K H b ys/\xs≠[]/\xs.length+ys.length<=sizeLine /\
 (ys=[]->Q (.ref a) H)/\(ys≠[]->∀p,H p=none->Q (.ref p) (upd H p (.tup (xs++ys))))
def aL.nil_iff (r:aL xs us):us=[]↔xs=[]:=by
 cases r with
 |nil=>simp
 |cons _ _=>simp
def LG:cB X (binaryOp .Add) (Ue X.K):=by
 intro af s σ H x y v u Q I c d h;obtain⟨a,b,xs,ys,rfl,rfl,ha,hb,hx,hz,f,q2⟩:=h;cases c
 cases d
 obtain⟨its,O,g,_⟩:=I.tuple ha;obtain⟨U,M,p2,_⟩:=I.tuple hb;refine HT.L9 g p2 (λz=>hx (O.nil_iff.mp z)) (λz=>⟨.ref a,H,I,rr,f (M.nil_iff.mp z)⟩) (λz=>?_) (by rw[<-O.length,<-M.length];exact hz);refine⟨.ref s.z,_,I.laid (t':=s.toks) (o:=.tup (xs++ys)) (λb ob q=>vZ _ q) (vT _) ?_,rr,q2 (λw=>z (M.nil_iff.mpr w)) _ (I.hok.fresh (vT _))⟩;exact⟨by rw[uZ];exact hz,_,O.append M,IsTup.new _ _⟩
end
def Gb (n:Nat)(i:Int):Option Nat:=if 0<=i then (if i<n then some i.toNat else none)else if -(n:Int)<=i then some (i+n).toNat else none
def mQ {α:Type}(xs:List α)(i:Int):Option α:=(Gb xs.length i).bind λj=>xs[j]?
def BQ (h:Gb n i=some j):seqIndex? i n=some j/\j<n/\-(n:Int)<=i/\i<n:=by
 unfold Gb at h;by_cases h0:0<=i
 .rw[if_pos h0]at h;by_cases h1:i<n
  .rw[if_pos h1]at h;have e:i.toNat=j:=vK h;exact⟨by rw[seqIndex_of h0 h1,e],N9,N9,h1⟩
  simp_all
 .rw[if_neg h0]at h;by_cases h1 : -(n:Int)<=i
  .rw[if_pos h1]at h;have e:(i+n).toNat=j:=vK h;exact⟨by rw[seqIndex_neg N9 h1,e],N9,h1,N9⟩
  simp_all
def vk {α:Type}{xs:List α}{i:Int}{v:α}(h:mQ xs i=some v):∃j,seqIndex? i xs.length=some j/\xs[j]? = some v/\j<xs.length/\-(xs.length:Int)<=i/\i<xs.length:=by
 unfold mQ at h;cases e:Gb xs.length i with
 |none=>rw[e]at h;cases h
 |some j=>
  rw[e]at h;obtain⟨h1,h2,h3,h4⟩:=BQ e;exact⟨j,h1,h,h2,h3,h4⟩
def LH {α:Type}{xs:List α}{j:Nat}{v:α}(h:xs[j]? = some v):mQ xs (j:Int)=some v:=by
 have hj:j<xs.length:=(vV h).1;simp_all[Gb,mQ]
def lP (b:Expr):Prop:=∀o i,subscripted b false o i=operate [o,i] (getItem o i)
def Gc (X:Cx)(r:R2):Prop:=
 ∀(O M:Expr)(af:AO)(s:Shared)(σ:St)(H:Hp)(x y:V)(v u:Value)(Q:VK),Inv X af σ H s->aF x v->aF y u->r x y H Q ->
  subscripted M false v u=operate [v,u] (getItem v u)->wq X (subscriptTail O M v u) (EP X af σ Q) X.xe s
def LJ (X:Cx)(id:String)(r:V->List V->Hp->VK->Prop):Prop:=
 ∀(af:AO)(s:Shared)(σ:St)(H:Hp)(x:V)(xs:List V)(v:Value)(us:LU)(Q:VK),Inv X af σ H s->aF x v->aL xs us->r x xs H Q ->
  wq X (call (.builtin id) (v::us)) (EP X af σ Q) X.xe s
section
variable {X:Cx}{a b:Expr}{ta tb:TE}{pos:Pos}
def Gd (M:Gc X r)(ha:PE X a ta)(hb:PE X b tb)(hs:lP b):PE X (.Subscript a b pos) (WH r ta tb):=by
 intro af s σ H Q I h;exact Subscript_ (PQ ha hb I h λv u s2 x y H2 O U c q=>M a b af s2 σ H2 x y v u Q O U c q (hs _ _))
def Xy (K:Frag):R2:=λx y H Q=>∃p xs i v,x=.ref p/\y=.int i/\fD K H p xs/\mQ xs i=some v/\Q v H
def Xz (K:Frag):R2:=λx y H Q=>∃p xs i v,x=.ref p/\y=.int i/\gF K H p xs/\mQ xs i=some v/\Q v H
def X0:R2:=λx y H Q=>∃z i c,x=.str z/\y=.int i/\z.length<=sizeLine/\mQ z.cps.toList i=some c/\Q (.str ⟨#[c]⟩) H
def LL:Gc X (Xy X.K):=by
 intro M O af s σ H x y v u Q I d e h hs;obtain⟨p,xs,i,z,rfl,rfl,hq,he,q⟩:=h;cases d
 obtain⟨t,rfl⟩:=e;obtain⟨its,r,pl,hz⟩:=I.list hq;obtain⟨j,h1,h2,h3,h4,h5⟩:=vk he;obtain⟨w,c,U⟩:=r.get h2;have hl:=r.length;have hn:=mU;have dI:EP X af σ Q w s:=⟨z,H,I,U,q⟩;by_cases h0:0<=i
 .have hj:i.toNat=j:=by
   rw[seqIndex_of h0 h5]at h1;exact vK h1
  exact item_listR pl.isList h0 N9 (by rw[hj];simpa using c) dI hs
 .have hj:(i+(its.toArray.size:Int)).toNat=j:=by
   rw[seqIndex_neg N9 h4]at h1;rw[vH,<-hl];exact vK h1
  exact subscriptTail_builtinR (x:=w) pl.isList.typeIs slot_list_getitem.lookup
   (wpAny_getItem_list_neg (Q:=λr s'=>r=w/\EP X af σ Q r s') pl.isList N9 (by rw[vH]<;>lia) N9 (by rw[hj];simpa using c) ⟨rr,dI⟩) hs
def vn:Gc X (Xz X.K):=by
 intro M O af s σ H x y v u Q I c d h hs;obtain⟨p,xs,i,z,rfl,rfl,hq,he,q⟩:=h;cases c
 obtain⟨t,rfl⟩:=d;obtain⟨its,r,pl,hz⟩:=I.tuple hq;obtain⟨j,h1,h2,h3,h4,h5⟩:=vk he;obtain⟨w,e,U⟩:=r.get h2;have hl:=r.length;have hn:=mU;have dI:EP X af σ Q w s:=⟨z,H,I,U,q⟩;exact subscriptTail_builtinR (x:=w) pl.typeIs slot_tuple_getitem.lookup
  (getItem_tuple (j:=j) (Q:=λr s'=>r=w/\EP X af σ Q r s') pl N9 N9 (by simp_all) (by simpa using e) ⟨rr,dI⟩) hs
def A0:Gc X X0:=by
 intro M O af s σ H x y v u Q I U d h hs;obtain⟨z,i,c,rfl,rfl,hz,he,q⟩:=h;obtain⟨t,rfl⟩:=U;obtain⟨t',rfl⟩:=d;obtain⟨j,h1,h2,h3,h4,h5⟩:=vk he;have hl:z.cps.toList.length=z.length:=by simp[Str.length]
 rw[hl]at h1 h4 h5;have hn:=mU;exact tail_any (typeIs_str s z t) slot_str_getitem.lookup (getItem_str (c:=c) (by
  lia) (by rw[h1];simpa using h2) ⟨.str ⟨#[c]⟩,H,I.tok _,⟨_,rr⟩,q⟩) hs
def A1 (its:LU)(n j:Nat)(u:Value):Obj.mapSeq (·.setIfInBounds j u) { cls:=.type "list",data:=.seq its.toArray n }={ cls:=.type "list",data:=.seq (its.set j u).toArray n }:=by
 simp[Obj.mapSeq]
def Inv.lst (I:Inv X af σ H s)(h:H p=some (.lst xs)):
  ∃(its:LU)(n:Nat),aL xs its/\s.heap.get? p=some { cls:=.type "list",data:=.seq its.toArray n }/\xs.length<=sizeLine:=by
 obtain⟨z,its,n,r,e⟩:=I.hok p _ h;exact⟨its,n,r,e,z⟩
def Inv.lstUpd {af:AO}{σ:St}{H:Hp}{s:Shared}{p:Addr}{xs ys:List V}{its its':LU}{n M:Nat}{f:Obj->Obj}(I:Inv X af σ H s)(h:H p=some (.lst xs))
  (ho:s.heap.get? p=some { cls:=.type "list",data:=.seq its.toArray n }) (hf:f { cls:=.type "list",data:=.seq its.toArray n }={ cls:=.type "list",data:=.seq its'.toArray M }) (r:aL ys its') (hz:ys.length<=sizeLine) (t:Nat):
  Inv X af σ (upd H p (.lst ys)) { s with heap:=s.heap.update p f,toks:=t }:=by
 have e:(s.heap.update p f).get? p=some { cls:=.type "list",data:=.seq its'.toArray M }:=by
  rw[Heap.get?_update_self f ho (by rw[hf]<;>rfl),hf]
 refine I.write (x:=p) (e:=p) (by rw[h];trivial) (.inl rr) (λb u hb q=>(Heap.get?_update_other _ _ (Ne.symm hb)).trans q) ⟨_,e⟩ ?_;exact⟨hz,its',M,r,e⟩
def Uf:V->V->V->Hp->(Hp->Prop)->Prop:=λo i v H Q=>∃p xs k j,o=.ref p/\i=.int k/\H p=some (.lst xs)/\Gb xs.length k=some j/\Q (upd H p (.lst (xs.set j v)))
def Ge:TF X Uf:=by
 intro af s σ H o i v d iv u Q I O U c h;obtain⟨p,xs,k,j,rfl,rfl,hp,hj,q⟩:=h;cases O
 obtain⟨t,rfl⟩:=U;obtain⟨its,n,r,ho,hz⟩:=I.lst hp;obtain⟨h1,h2,h3,h4⟩:=BQ hj;have hl:=r.length;have hn:=mU;have M:Inv X af σ (upd H p (.lst (xs.set j v))) { s with heap:=s.heap.update p (Obj.mapSeq (·.setIfInBounds j u)) } :=
  I.lstUpd hp ho (A1 its n j u) (r.set c j) (by rw[length_set];exact hz) s.toks
 by_cases h0:0<=k
 .have hk:k.toNat=j:=by
   rw[seqIndex_of h0 h4]at h1;exact vK h1
  exact PySem.W.ki_setAt ho h0 N9 (by rw[vH,<-hl];exact h4) (by rw[hk];exact⟨_,M,q⟩)
 .have hk:(k+(its.toArray.size:Int)).toNat=j:=by
   rw[seqIndex_neg N9 h3]at h1;rw[vH,<-hl];exact vK h1
  exact PySem.W.ki_setBack ho N9 (by rw[vH,<-hl];exact h3) N9 (by rw[hk];exact⟨_,M,q⟩)
def xx10 (i:Int)(n:Nat):max 0 (min (if i<0 then i+n else i) n)=(((if i<0 then (i+n).toNat else min i.toNat n):Nat):Int):=by
 split
 .rw[Int.min_eq_left (by lia),Int.ofNat_toNat,Int.max_comm]
 .rename_i h;obtain⟨k,rfl⟩:=Int.eq_ofNat_of_zero_le (Int.not_lt.mp h);rw[Int.toNat_natCast,Int.max_eq_right (Int.le_min.mpr ⟨Int.not_lt.mp h,Int.natCast_nonneg n⟩)];rcases Nat.le_total k n with z|z
  .rw[Nat.min_eq_left z,Int.min_eq_left (Int.ofNat_le.mpr z)]
  .rw[Nat.min_eq_right z,Int.min_eq_right (Int.ofNat_le.mpr z)]
def vp (lo hi:OI)(n:Nat):(sliceBounds lo hi none n).1=((HT.de n 0 lo:Nat):Int)/\(sliceBounds lo hi none n).2.1=((HT.de n n hi:Nat):Int)/\(sliceBounds lo hi none n).2.2=1:=by
 refine⟨?_,?_,rr⟩
 .cases lo with
  |none=>rfl
  |some i=>exact xx10 i n
 .cases hi with
  |none=>rfl
  |some i=>exact xx10 i n
def sZ (its:LU)(lo hi:OI):slicePick its.toArray lo hi none=((its.drop (HT.de its.length 0 lo)).take (HT.de its.length its.length hi - HT.de its.length 0 lo)).toArray:=by
 obtain⟨h1,h2,h3⟩:=vp lo hi its.toArray.size;unfold slicePick;rw[h1,h2,h3];simp only[sliceRange_one,pick_run,vH]<;>rfl
def X1 (K:Frag):V->OI->OI->Hp->VK->Prop:=λx lo hi H Q=>∃a xs,x=.ref a/\fD K H a xs/\∀p,H p=none->Q (.ref p) (upd H p (.lst (sY xs lo hi)))
def LM:F9 X (X1 X.K):=by
 intro af s σ H x v vl d lo hi sl Q I U hs pl c h;obtain⟨a,xs,rfl,hx,q⟩:=h;cases U
 obtain⟨its,r,O,hz⟩:=I.list hx;have M:=r.length;refine⟨"list",_,slot_list_getitem.lookup,O.isList.typeIs,?_⟩;refine wpAny_getItem_list_slice O.isList hs pl c .none H9 ?_ (by rw[vH]<;>lia)
 rw[sZ,<-M];refine⟨.ref s.z,_,I.laid (t':=s.toks) (o:=.lst (sY xs lo hi)) (λb ob q=>vZ _ q) (vT _) ?_,rr,q _ (I.hok.fresh (vT _))⟩;exact⟨vR (o0 xs lo hi) hz,_,0,(r.drop (HT.de xs.length 0 lo)).take (HT.de xs.length xs.length hi - HT.de xs.length 0 lo),vY _ rr⟩
noncomputable def kL:V->Bool
 |.non=>true
 |.bl _=>true
 |.int _=>true
 |.str _=>true
 |_=>false
def LO:V->V->Bool
 |.non,.non=>true
 |.bl a,.bl b=>a == b
 |.bl a,.int b=>(if a then 1 else 0) == b
 |.int a,.bl b=>a == (if b then 1 else 0)
 |.int a,.int b=>a == b
 |.str a,.str b=>a == b
 |_,_=>false
def Qi (O:aF y u)(M:aF x v)(U:kL y=true)(fx:kL x=true):SeqAt.EqAt A s u v (LO y x):=by
 cases y with
 |non=>
  cases O
  cases x with
  |non=>cases M;exact SeqAt.EqAt.same _
  |bl b=>cases M;exact SeqAt.EqAt.none_bool b
  |int b=>obtain⟨t,rfl⟩:=M;exact SeqAt.EqAt.none_int b t
  |str b=>obtain⟨t,rfl⟩:=M;exact SeqAt.EqAt.none_str b t
  |_=>exact absurd (show false=true from fx) uX
 |bl a=>
  cases O
  cases x with
  |non=>cases M;exact SeqAt.EqAt.bool_none a
  |bl b=>cases M;exact SeqAt.EqAt.bool_bool a b
  |int b=>obtain⟨t,rfl⟩:=M;exact SeqAt.EqAt.bool_int a b t
  |str b=>obtain⟨t,rfl⟩:=M;exact SeqAt.EqAt.bool_str a b t
  |_=>exact absurd (show false=true from fx) uX
 |int a=>
  obtain⟨t',rfl⟩:=O;cases x with
  |non=>cases M;exact SeqAt.EqAt.int_none a t'
  |bl b=>cases M;exact SeqAt.EqAt.int_bool a t' b
  |int b=>obtain⟨t,rfl⟩:=M;exact SeqAt.EqAt.int_int a t' b t
  |str b=>obtain⟨t,rfl⟩:=M;exact SeqAt.EqAt.int_str a t' b t
  |_=>exact absurd (show false=true from fx) uX
 |str a=>
  obtain⟨t',rfl⟩:=O;cases x with
  |non=>cases M;exact SeqAt.EqAt.str_none a t'
  |bl b=>cases M;exact SeqAt.EqAt.str_bool a t' b
  |int b=>obtain⟨t,rfl⟩:=M;exact SeqAt.EqAt.str_int a t' b t
  |str b=>obtain⟨t,rfl⟩:=M;exact SeqAt.EqAt.str_str a t' b t
  |_=>exact absurd (show false=true from fx) uX
 |_=>exact absurd (show false=true from U) uX
def A2 (x:V)(u:Value):Bool:=match u with
 |.none=>LO .non x
 |.bool b=>LO (.bl b) x
 |.int i _=>LO (.int i) x
 |.str z _=>LO (.str z) x
 |_=>false
def Gf (r:aF y u)(f:kL y=true):A2 x u=LO y x:=by
 cases y with
 |non=>cases r;rfl
 |bl b=>cases r;rfl
 |int i=>obtain⟨t,rfl⟩:=r;rfl
 |str z=>obtain⟨t,rfl⟩:=r;rfl
 |_=>exact absurd (show false=true from f) uX
theorem lQ:∀ {xs:List V}{us:LU},aL xs us->xs.all kL=true->us.any (A2 x)=xs.any λy=>LO y x
 |_,_,.nil,_=>rr
 |y::xs,u::us,.cons r t,f=>by
  rw[all_cons,vC]at f;rw[any_cons,any_cons,Gf r f.1,lQ t f.2]
theorem jp (M:aF x v)(fx:kL x=true):∀ {xs:List V}{us:LU},aL xs us->xs.all kL=true->∀u∈us,SeqAt.EqAt A s u v (A2 x u)
 |_,_,.nil,_=>λu hu=>by cases hu
 |y::xs,u::us,.cons r t,f=>λu' hu=>by
  rw[all_cons,vC]at f;rcases vP hu with rfl|hu
  .rw[Gf r f.1];exact Qi r M f.1 fx
  .exact jp M fx t f.2 u' hu
noncomputable def WI (x:V)(xs:List V):Bool:=xs.any λy=>LO y x
def ZE (K:Frag)(M:Bool):R2:=λx y H Q=>∃p xs,y=.ref p/\(fD K H p xs\/gF K H p xs)/\kL x=true/\xs.all kL=true/\Q (.bl (if M then !WI x xs else WI x xs)) H
def DX:cB X (compareOp .In) (ZE X.K false):=by
 intro af s σ H x y v u Q I M O h;obtain⟨p,xs,rfl,hq,fx,fs,q⟩:=h;cases O
 rcases hq with hq|hq
 .obtain⟨its,r,pl,hz⟩:=I.list hq;refine SeqAt.in_listAt (A2 x) pl.isList (λw hw=>jp M fx r fs w (by simpa using hw)) ⟨.bl _,H,I,rr,?_⟩;rw[show its.toArray.any (A2 x)=its.any (A2 x) by simp,lQ r fs];exact q
 .obtain⟨its,r,pl,hz⟩:=I.tuple hq;refine SeqAt.in_tupleAt (A2 x) pl (λw hw=>jp M fx r fs w (by simpa using hw)) ⟨.bl _,H,I,rr,?_⟩;rw[show its.toArray.any (A2 x)=its.any (A2 x) by simp,lQ r fs];exact q
def vq:cB X (compareOp .NotIn) (ZE X.K true):=by
 intro af s σ H x y v u Q I M O h;obtain⟨p,xs,rfl,hq,fx,fs,q⟩:=h;cases O
 rcases hq with hq|hq
 .obtain⟨its,r,pl,hz⟩:=I.list hq;refine SeqAt.notIn_listAt (A2 x) pl.isList (λw hw=>jp M fx r fs w (by simpa using hw)) ⟨.bl _,H,I,rr,?_⟩;rw[show its.toArray.any (A2 x)=its.any (A2 x) by simp,lQ r fs];exact q
 .obtain⟨its,r,pl,hz⟩:=I.tuple hq;refine SeqAt.notIn_tupleAt (A2 x) pl (λw hw=>jp M fx r fs w (by simpa using hw)) ⟨.bl _,H,I,rr,?_⟩;rw[show its.toArray.any (A2 x)=its.any (A2 x) by simp,lQ r fs];exact q
def vt:bg X (.builtin "len") (λxs H Q=>∃p ys,xs=[.ref p]/\(fD X.K H p ys\/gF X.K H p ys)/\Q (.int ys.length) H):=by
 intro af s σ H xs us Q I r h;obtain⟨p,ys,rfl,hq,q⟩:=h;obtain⟨u,rfl,U⟩:=eC r;cases U
 have hn:=mU;rcases hq with hq|hq
 .obtain⟨its,O,pl,hz⟩:=I.list hq;have M:=O.length;exact Calls.call_len_list pl.isList (by grind) ⟨.int ys.length,H,I.tok _,⟨s.toks+1,by rw[vH,M]⟩,q⟩
 .obtain⟨its,O,pl,hz⟩:=I.tuple hq;have M:=O.length;exact len_tuple pl (by grind) ⟨.int ys.length,H,I.tok _,⟨s.toks+1,by rw[vH,M]⟩,q⟩
def vv:bg X (.builtin "len") (λxs H Q=>∃z,xs=[.str z]/\z.length<=sizeLine/\Q (.int z.length) H):=by
 intro af s σ H xs us Q I r h;obtain⟨z,rfl,hz,q⟩:=h;obtain⟨u,rfl,t,rfl⟩:=eC r;have hn:=mU;exact len_str N9 ⟨.int z.length,H,I.tok _,⟨_,rr⟩,q⟩
def bg.or (h:bg X f r)(h':bg X f M):bg X f (λxs H Q=>r xs H Q\/M xs H Q):=by
 intro af s σ H xs us Q I rs q;rcases q with q|q
 .exact h af s σ H xs us Q I rs q
 .exact h' af s σ H xs us Q I rs q
def vw:bg X (.type "list") (λxs H Q=>∃p ys,xs=[.ref p]/\(fD X.K H p ys\/gF X.K H p ys)/\∀l,H l=none->Q (.ref l) (upd H l (.lst ys))):=by
 intro af s σ H xs us Q I r h;obtain⟨p,ys,rfl,hq,q⟩:=h;obtain⟨u,rfl,c⟩:=eC r;cases c
 have dI:∀(its:LU),aL ys its->ys.length<=sizeLine->∀(h':Heap)(M:Nat),(∀b o',s.heap.get? b=some o'->h'.get? b=some o') ->
   h'.get? s.z=some { cls:=.type "list",dict:=none,data:=.seq its.toArray M,slots:=#[] }->EP X af σ Q (.ref s.z) { s with heap:=h' }:=λits O hz h' M kp e=>
  ⟨.ref s.z,_,I.laid (t':=s.toks) kp (vT _) (show bf X.prog X.w _ h' _ (.lst ys)from ⟨hz,its,M,O,e⟩),rr,q _ (I.hok.fresh (vT _))⟩
 rcases hq with hq|hq
 .obtain⟨its,O,pl,hz⟩:=I.list hq;have U:=O.length;obtain⟨o,ho,hc,n,hd⟩:=pl.isList;exact call_list_seq p (.inl rr) ho hc hd (λh' M kp e=>dI its O hz h' M kp e) (by simp_all)
 .obtain⟨its,O,pl,hz⟩:=I.tuple hq;have U:=O.length;obtain⟨o,ho,hc,n,hd⟩:=pl;exact call_list_seq p (.inr rr) ho hc hd (λh' M kp e=>dI its O hz h' M kp e) (by simp_all)
def tj:bg X (.type "tuple") (λxs H Q=>∃p ys,xs=[.ref p]/\((fD X.K H p ys/\∀l,H l=none->Q (.ref l) (upd H l (.tup ys)))\/(gF X.K H p ys/\Q (.ref p) H))):=by
 intro af s σ H xs us Q I r h;obtain⟨p,ys,rfl,h⟩:=h;obtain⟨u,rfl,c⟩:=eC r;cases c
 rcases h with⟨hq,q⟩|⟨hq,q⟩
 .obtain⟨its,M,pl,hz⟩:=I.list hq;have O:=M.length;refine call_tuple_list pl.isList (λh' kp=>?_) (by simp_all);have U:Inv X af σ H { s with heap:=h' }:=I.kept (t':=s.toks) kp;have d:Inv X af σ (upd H h'.objs.size (.tup ys)) { s with heap:=h'.push { cls:=.type "tuple",data:=.seq its.toArray } } :=
   U.laid (t':=s.toks) (λb o e=>vZ _ e) (vT _) (show bf X.prog X.w _ _ _ (.tup ys)from ⟨hz,its,M,IsTup.new _ _⟩)
  exact⟨.ref h'.objs.size,_,d,rr,q _ (U.hok.fresh (vT _))⟩
 .obtain⟨its,M,pl,hz⟩:=I.tuple hq;exact call_tuple_same pl ⟨.ref p,H,I,rr,q⟩
def ZF (K:Frag)(T:String)(x:V)(H:Hp):Prop:=match x with
 |.str _=>T = "str"
 |.int _=>T = "int"
 |.ref p=>(T = "list"/\∃xs,fD K H p xs)\/(T = "tuple"/\∃o,K.lookup p=some o/\o.cls=.type "tuple"/\o.dict=none) \/
   (T = "dict"/\((∃a8 ob,H p=some (.dK a8 ob))\/∃a8,H p=some (.dT a8)))\/(T = "set"/\∃S n,H p=some (.set S n))
 |_=>False
def A3 (I:Inv X af σ H s)(r:aF x v)(ty:ZF X.K T x H):
  s.TypeIs v T/\∀a,v=.ref a->∃ob,s.heap.get? a=some ob/\ob.dict=none:=by
 cases x with
 |str z=>
  obtain⟨t,rfl⟩:=r;cases (show T = "str" from ty)
  simp_all[typeIs_str]
 |int i=>
  obtain⟨t,rfl⟩:=r;cases (show T = "int" from ty)
  simp_all[typeIs_int]
 |ref p=>
  cases r
  rcases ty with⟨rfl,xs,hq⟩|⟨rfl,o,hk,hc,hd⟩|⟨rfl,hk⟩|⟨rfl,S,n,hk⟩
  .obtain⟨its,_,pl,_⟩:=I.list hq;refine⟨pl.isList.typeIs,λa e=>?_⟩;cases e
   obtain⟨o,n,e,c,hd,_⟩:=pl;exact⟨o,e,hd⟩
  .refine⟨⟨o,I.kIn p o hk,hc⟩,λa e=>?_⟩;cases e
   exact⟨o,I.kIn _ o hk,hd⟩
  .have z:∃o,s.heap.get? p=some o/\o.ExactDict:=by
    rcases hk with⟨a8,M,hk⟩|⟨a8,hk⟩
    .obtain⟨_,_,_,_,_,o,_,_,e,ex,_⟩:=I.hok p _ hk;exact⟨o,e,ex⟩
    .obtain⟨_,_,_,_,o,_,_,e,ex,_⟩:=I.hok p _ hk;exact⟨o,e,ex⟩
   obtain⟨o,e,ex⟩:=z;refine⟨⟨o,e,ex.1⟩,λa e2=>?_⟩;cases e2
   exact⟨o,e,ex.2.1⟩
  .obtain⟨o,_,_,_,e,ex,_⟩:=I.hok p _ hk;refine⟨⟨o,e,ex.1⟩,λa e2=>?_⟩;cases e2
   exact⟨o,e,ex.2.1⟩
 |_=>exact False.elim ty
def tBM (K:Frag)(T:String)(r:V->List V->Hp->VK->Prop)(to:TE)(t:TA):TE:=λσ H Q=>to σ H λx M=>ZF K T x M/\t σ M λxs H2=>r x xs H2 Q
variable {o e:Expr}{es:QD}{to:TE}{t:TA}{name:Str}{cm b8:Pos}{T id:String}{r:V->List V->Hp->VK->Prop}
def xJ (g:PlainAttrs T)(slot:Slot T name id)(i:typeOf (.builtin id)=pure (.type "method_descriptor"))(hm:LJ X id r)(ho:PE X o to)(ha:PA X (e::es) t)
  (O:attributeBase o name X.env (eval o X.env)=eval o X.env:=by rfl)
  (j:((backTo b8 (starEach (e::es) X.env)).all (λx=>!x.1) && (backToKw b8 (keywordEach [] X.env)).all (λx=>x.1.isSome)
   && decide ((e::es).length+([]:List Keyword).length+(if([]:List Keyword).isEmpty then 0 else 1)<30))=true:=by rfl)
  (U:(cm.endLine == b8.line)=true:=by rfl) (hs:starEach (e::es) X.env=(false,eval e X.env)::starEach es X.env:=by rfl) (M:(backTo b8 (starEach es X.env)).any (·.1)=false:=by rfl):
  PE X (.Call (.Attribute o name cm) (e::es) [] b8) (tBM X.K T r to t):=by
 intro af s σ H Q I h;refine wpAny_Call_method_late O j U rr (bI (ho af s σ H _ I h) λv s1 ⟨x,k,c,d,ty,l⟩=>?_);obtain⟨h1,h2⟩:=A3 c d ty;refine⟨T,id,g,slot,i,h1,h2,?_⟩;have f:=ha b8 af s1 σ k _ c l;rw[hs]at f |-;refine Calls.callWith_builtin (by show(false || (backTo b8 (starEach es X.env)).any (·.1))=false;rw[M]<;>rfl) (Calls.evalArgs_plain ?_)
 exact bI f λus s2 ⟨vs,H2,m,n,q2⟩=>hm af s2 σ H2 x vs v us Q m d n q2
/- xs.append(e),list.index on a module's tuple .. are LJ facts of 06m -/
end
def X2 (X:Cx)(id:String)(r:V->List V->Hp->VK->Prop):Prop:=
 ∀(af:AO)(s:Shared)(σ:St)(H:Hp)(x:V)(xs:List V)(v:Value)(us:LU)(Q:VK),Inv X af σ H s->aF x v->aL xs us->r x xs H Q ->
  wq X (call (.builtin id) (v::us)) (EP X af σ Q) X.xe s
theorem aL.one {x:V}{us:LU}(h:aL [x] us):∃u,us=[u]/\aF x u:=by
 cases h with
 |cons r h=>cases h;exact⟨_,rr,r⟩
def aL.two {x y:V}{us:LU}(h:aL [x,y] us):∃u v,us=[u,v]/\aF x u/\aF y v:=by
 cases h with
 |cons r h=>
  grind[aL.one]
theorem aL.zero:∀ {us:LU},aL [] us->us=[]
 |_,.nil=>rr
section
variable {X:Cx}{af:AO}{σ:St}{H:Hp}{s:Shared}{l b:Addr}{xs ys zs:List V}
def Inv.lset {its its':LU}{n:Nat}{f:AV->AV}{t':Nat}(I:Inv X af σ H s)(M:H l=some (.lst xs))
  (e:s.heap.get? l=some { cls:=.type "list",data:=.seq its.toArray n }) (hf:f its.toArray=its'.toArray) (hv:aL ys its') (hz:ys.length<=sizeLine):
  Inv X af σ (upd H l (.lst ys)) { s with heap:=s.heap.update l (Obj.mapSeq f),toks:=t' }:=by
 have q:=PySem.IsL.update e f;rw[hf]at q;refine I.write (x:=l) (e:=l) (by rw[M];exact trivial) (.inl rr) (λb' u hb hu=>(Heap.get?_update_other s.heap (Obj.mapSeq f) (Ne.symm hb)).trans hu) ⟨_,q⟩ ?_;exact⟨hz,its',_,hv,q⟩
def Inv.lnew (I:Inv X af σ H s)(hv:aL ys its)(hz:ys.length<=sizeLine):
  Inv X af σ (upd H s.z (.lst ys)) { s with heap:=s.heap.push { cls:=.type "list",data:=.seq its.toArray },toks:=t' } :=
 I.laid (λ_ _ q=>vZ _ q) (vT _) ⟨hz,its,0,hv,vY _ rr⟩
def Inv.fresh (I:Inv X af σ H s):H s.z=none:=I.hok.fresh (vT _)
def Inv.lstM (I:Inv X af σ H s)(M:H l=some (.lst xs)):xs.length<=sizeLine/\∃(its:LU)(n:Nat),aL xs its/\xs.length=its.length/\s.heap.get? l=some { cls:=.type "list",data:=.seq its.toArray n }:=by
 obtain⟨z,its,n,r,e⟩:=I.hok l _ M;exact⟨z,its,n,r,r.length,e⟩
def Gg (h:n<=sizeLine):Builtin.List.listTooLong n=false:=by
 simp_all[Builtin.List.listTooLong]
end
section
variable {X:Cx}
def BR:V->List V->Hp->VK->Prop:=λx vs H Q=>∃l xs y,x=.ref l/\vs=[y]/\H l=some (.lst xs)/\xs.length<sizeLine/\Q .non (upd H l (.lst (xs++[y])))
def tN:X2 X "list.append" BR:=by
 intro af s σ H x vs v us Q I O U h;obtain⟨l,xs,y,rfl,rfl,M,hz,q⟩:=h;cases O
 obtain⟨u,rfl,ru⟩:=U.one;obtain⟨z,its,n,r,hl,e⟩:=I.lstM M;refine call_meets F.slot_list_append ⟨_,e,rr⟩ F.entry_list_append (F.args_list_append_2 _ _) (PySem.list_append l its.toArray n u (by rw[vH];lia)) ⟨e,?_⟩;refine⟨.non,_,I.lset (its':=its++[u]) M e H9 (r.append (.cons ru .nil)) ?_,rr,q⟩;simp<;>lia
def LP:V->List V->Hp->VK->Prop:=λx vs H Q=>∃l b xs zs,x=.ref l/\vs=[.ref b]/\H l=some (.lst xs)/\H b=some (.lst zs)/\xs.length+zs.length<=sizeLine/\Q .non (upd H l (.lst (xs++zs)))
def DY:X2 X "list.extend" LP:=by
 intro af s σ H x vs v us Q I a c h;obtain⟨l,b,xs,zs,rfl,rfl,U,d,hz,q⟩:=h;cases a
 obtain⟨u,rfl,ru⟩:=c.one;cases ru
 obtain⟨z,its,n,r,hl,e⟩:=I.lstM U;obtain⟨g,M,n2,f,i,e2⟩:=I.lstM d;have hsz:its.toArray.size+M.toArray.size<=sizeLine:=by simp_all
 have O:¬(!its.toArray.isEmpty && Builtin.List.listTooLong (its.toArray.size+M.toArray.size))=true:=by
  simp_all[Gg]
 refine call_meets F.slot_list_extend ⟨_,e,rr⟩ F.entry_list_extend (F.args_list_extend_2 _ _)
  (AutoSeq1.list_extend_list_list_0 l its.toArray n b M.toArray n2 O (by rw[vH];lia) N9) ⟨e,e2,?_⟩
 refine⟨.non,_,I.lset (its':=its++M) U e H9 (r.append f) ?_,rr,q⟩;simp_all
end
end L2
namespace Att
open PySem PySem.W PySem.Calls PyProof.Rows
def ph:∀(ns:LI)(vs:LU),WellAll P h vs (ns.map WData.int)->IntsAre vs ns:=by
 intro ns;induction ns with
 |nil=>
  intro vs w;rw[List.map_nil]at w;cases w
  exact .nil
 |cons n ns M=>
  intro vs w;rw[uY]at w;cases w with
  |cons a b=>
   cases a
   exact .cons _ _ (M _ b)
def DZ {l:OpenLaw}{n:Nat}(hn:l.most=some n){P:Params}{h:Heap}{args:List WData}{vals:LU}
  (M:l.row.toRowW.claim.pre args=true) (b:WellAll P h vals args):
  ∃a vs ns,vals=[Value.ref a]/\args=[WData.list (ns.map WData.int)]/\h.get? a=some { cls:=.type "list",data:=.seq vs.toArray }/\IntsAre vs ns/\ns.length<=n:=by
 have c:WShape.hasAll [] args [.list .int]=true:=(pre_splitW M).1;have hc:l.pre.holds [] { args:=args }=true:=(pre_splitW M).2;obtain⟨d,r,rfl,h1,h2⟩:=hasAllW_cons c;obtain rfl:=hasAllW_nil h2;obtain⟨xs,rfl,h3⟩:=hasW_list h1;obtain⟨ns,rfl⟩:=items_int h3;have O:ns.length<=n:=by
  unfold OpenLaw.pre at hc;have h4:(WTm.not (.lt (.lit (.int (n:Int))) (.len (.arg 0)))).holds [] { args:=[.list (ns.map .int)] }=true:=by
   have h4:=(holds_andW hc).1;rw[hn]at h4;exact h4
  have h5:=condW_of h4 (w_not (w_lt w_lit (w_len_list (w_arg rr))));simp_all
 cases b with
 |cons e f=>
  cases f
  cases e with
  |list ho U=>exact⟨_,_,ns,rr,rr,ho,ph ns _ U,O⟩
def Ea (l:OpenLaw)(args:List WData):l.row.toRowW.claim.post args (.bool true) args=true:=
 postW_of (r:=l.row.toRowW) (X:=(true == true))
  (show WShape.has [] (.bool true) .bool=true by rfl)
  (show(WTm.eq .res (.lit (.bool true))).value [] { args:=args,res:=some (.bool true),after:=args }=some (.bool (true == true))from w_eq_bool (w_res rr) w_lit) rr
section
variable {prog:Program}{w:World}{A:Around}{E:QV}{s:Shared}{K:Frag}
end
end Att
namespace L2
open PySem PySem.Spec PyProof.Rows
theorem eE:∀ {vs:LU}{ns:LI},IntsAre vs ns->aL (ns.map V.int) vs
 |_,_,.nil=>.nil
 |_,_,.cons n t h=>.cons ⟨t,rr⟩ (eE h)
noncomputable def eU (s:Stmt):Arguments:=match s with
 |.FunctionDef _ a _ _ _ _ _ _ _ _=>a
 |_=>{ posonlyargs:=[],args:=[],vararg:=none,kwonlyargs:=[],kw_defaults:=[],kwarg:=none,defaults:=[] }
noncomputable def bF (s:Stmt):List Stmt:=match s with
 |.FunctionDef _ _ b _ _ _ _ _ _ _=>b
 |_=>[]
noncomputable def aC (s:Stmt):Scope:=match s with
 |.FunctionDef _ _ _ _ _ _ sc _ _ _=>sc
 |_=>{ kind:=.function,names:=[],isGenerator:=false,isCoroutine:=false }
abbrev xK:L7:=λ_ _ _ _ _ _=>False
abbrev E0:XK:=λ_ _ _=>False
def Uh:Ax xK X E0:=λ_ _ _ _ _ _ _ h=>h.elim
structure Ss (K:Frag)(x qual:Str)(st:Stmt)(f:Addr)(fd:FuncData):Prop where
 ex:∃(oc:Value)(od:Option Addr)(kV doc pm:Value)(an:Option Addr)(dA ct:Value)(mS:Array (Option Value)),
  fd=fnOf x qual (eU st) (bF st) (aC st) .none kV doc pm an dA ct/\K.lookup f=some ⟨oc,od,.func fd,mS⟩/\PySem.W.codeIn K dA qual=true
 kp:PySem.W.keepIn K (.ref f)=true
section
variable {P:Program}{w:World}{K:Frag}{mg:SV}{base:Heap}
def Ss.ok {x qual:Str}{st:Stmt}{f:Addr}{fd:FuncData}{N ps:LS}{k:Nat}{sp:Sp}(F:Ss K x qual st f fd)(S:FnScope N ps (aC st))(len:∀vs H Q E,sp vs H Q E->vs.length=ps.length)
  (M:∀(dA:Value)(A:Around)(outer:List Env)(s:Shared)(H:Hp)(vs:List V)(Q:VK)(E:XK),dq k (A.deeper (envOfC qual (aC st) s.z f dA))->sp vs H Q E ->
   ∃t,tI (pf xK P w K mg base N qual (aC st) f dA A outer s H E).nox (bF st) t/\t { nx:=λ_ H'=>Q .non H',rt:=Q } (kK N vs) H):mO P w K mg base xK (k+1) f fd ps sp:=by
 obtain⟨oc,od,kV,doc,pm,an,dA,ct,mS,rfl,a,O⟩:=F.ex;refine OC a O S len λA outer s H vs Q E b U=>?_;obtain⟨t,h,q⟩:=M dA A outer s H vs Q E b U;exact⟨t,h.nox,q⟩
def Ss.binds {x qual:Str}{st:Stmt}{f:Addr}{fd:FuncData}{ps:LS}(F:Ss K x qual st f fd)
  (h:∀(kV doc pm:Value)(an:Option Addr)(dA ct:Value)(us:LU),us.length=ps.length->bindArgs (fnOf x qual (eU st) (bF st) (aC st) .none kV doc pm an dA ct) ⟨us,[]⟩=pure (ps.zip us)):oy K fd ps []:=by
 obtain⟨oc,od,kV,doc,pm,an,dA,ct,mS,rfl,O,M⟩:=F.ex;exact .all (h kV doc pm an dA ct)
def Qj {x qual:Str}{st:Stmt}{f:Addr}{oc:Value}{od an:Option Addr}{mS:Array (Option Value)}{kV doc pm dA ct:Value}(l:K.lookup f=some ⟨oc,od,.func (fnOf x qual (eU st) (bF st) (aC st) .none kV doc pm an dA ct),mS⟩)
  (c:PySem.W.codeIn K dA qual=true) (k:PySem.W.keepIn K (.ref f)=true):Ss K x qual st f (fnOf x qual (eU st) (bF st) (aC st) .none kV doc pm an dA ct):=⟨⟨oc,od,kV,doc,pm,an,dA,ct,mS,rr,l,c⟩,k⟩
end
def aH (H H':Hp):Prop:=∀b o,H b=some o->H' b=some o
def aH.refl (H:Hp):aH H H:=λ_ _ h=>h
def aH.trans (a:aH H M)(b:aH M H2):aH H H2:=λc o h=>b c o (a c o h)
def aH.free (e:aH H H')(h:H' l=Option.none):H l=Option.none:=by
 cases q:H l with
 |none=>rfl
 |some o=>
  rw[e l o q]at h;cases h
def aH.seq {K:Frag}{H H':Hp}{a:Addr}{xs:List V}(e:aH H H')(h:fD K H a xs):fD K H' a xs:=by
 rcases h with (h|⟨o,h⟩)|h
 .exact .inl (.inl (e _ _ h))
 .exact .inl (.inr ⟨o,e _ _ h⟩)
 .exact .inr h
section
variable {κ:Type}[DecidableEq κ]
noncomputable def jl (a8:List (κ×V))(k:κ):Option V:=(a8.find? λkv=>decide (kv.1=k)).map (·.2)
def mW (a8:List (κ×V))(k:κ)(v:V):List (κ×V):=
 if(a8.any λkv=>decide (kv.1=k))=true then a8.map (λkv=>if kv.1=k then (kv.1,v)else kv)else a8++[(k,v)]
def lR {p:κ×V}{r:List (κ×V)}{k:κ}(e:p.1=k):jl (p::r) k=some p.2:=by simp[jl,e]
def lS {p:κ×V}{r:List (κ×V)}{k:κ}(e:¬p.1=k):jl (p::r) k=jl r k:=by simp[jl,e]
theorem xL (k:κ):∀a8:List (κ×V),(a8.any λkv=>decide (kv.1=k))=(jl a8 k).isSome
 |[]=>rr
 |p::r=>by
  rw[any_cons];by_cases e:p.1=k
  .simp_all[lR]
  .rw[lS e,xx e];exact xL k r
theorem jq (a8:List (κ×V))(k:κ)(v:V):(mW a8 k v).length<=a8.length+1:=by
 grind[mW]
def kH.isSome_eq (r:kH o u):o.isSome=u.isSome:=by
 cases o with
 |none=>cases u with
  |none=>rfl
  |some _=>exact(show False from r).elim
 |some _=>cases u with
  |none=>exact(show False from r).elim
  |some _=>rfl
def kH.getD (r:kH o u)(M:aF d d'):aF (o.getD d) (u.getD d'):=by
 cases o with
 |none=>cases u with
  |none=>exact M
  |some _=>exact(show False from r).elim
 |some _=>cases u with
  |none=>exact(show False from r).elim
  |some _=>exact r
def KV.val {a8:List (κ×V)}{vs:List (κ×Value)}(r:KV a8 vs)(k:κ):kH (jl a8 k) (valueAt vs k):=by
 induction r with
 |nil=>exact True.intro
 |@cons p q ps M h t O=>
  obtain⟨h1,h2⟩:=h;by_cases e:p.1=k
  .have b:valueAt (q::M) k=some q.2:=by simp_all[valueAt]
   rw[lR e,b];exact h2
  simp_all[valueAt,lS]
def KV.any (r:KV a8 vs)(k:κ):(a8.any λkv=>decide (kv.1=k))=vs.any λkv=>decide (kv.1=k):=by
 induction r with
 |nil=>rfl
 |cons h t M=>simp_all
def KV.repl (r:KV a8 vs)(k:κ)(O:aF y u):
  KV (a8.map λkv=>if kv.1=k then (kv.1,y)else kv) (vs.map λkv=>if kv.1=k then (kv.1,u)else kv):=by
 induction r with
 |nil=>exact .nil
 |@cons p q ps U h t M=>
  rw[uY];refine .cons ?_ M;split<;>simp_all
def KV.put (r:KV a8 vs)(k:κ)(M:aF y u):KV (mW a8 k y) (stored vs k u):=by
 unfold mW stored;rw[r.any k];by_cases e:(vs.any λkv=>decide (kv.1=k))=true
 .rw[if_pos e,if_pos e];exact r.repl k M
 .rw[if_neg e,if_neg e];exact Paired.snoc r ⟨rr,M⟩
def KV.length (r:KV a8 vs):a8.length=vs.length:=Paired.length r
end
def pR (r:aF (kV k) u):(cn P w).is k u=true:=by
 cases k with
 |inl i=>obtain⟨t,e⟩:=(show ∃t,u=Value.int i t from r);simp_all[xD]
 |inr x=>obtain⟨t,e⟩:=(show ∃t,u=Value.str x t from r);simp_all[xE]
theorem tO:∀ {ks:List cZ}{us:LU},aL (ks.map kV) us->ItemsAre (cn P w) ks us
 |[],_,r=>by cases r;exact .nil
 |k::ks,_,r=>by
  cases r with
  |cons h t=>exact .cons (pR h) (tO t)
abbrev KT (H:Hp):List (List cZ×V)->List (List cZ×Addr×Value)->Prop:=Paired λp q=>p.1=q.1/\H q.2.1=some (.tup (p.1.map kV))/\aF p.2 q.2.2
def KT.val {H:Hp}{a8:List (List cZ×V)}{xs:List (List cZ×Addr×Value)}(r:KT H a8 xs)(k:List cZ):kH (jl a8 k) ((atKey xs k).map (·.2)):=by
 induction r with
 |nil=>exact True.intro
 |@cons p q ps M h t U=>
  obtain⟨h1,_,h2⟩:=h;by_cases e:p.1=k
  .have O:=h1.symm.trans e;have b:atKey (q::M) k=some q.2:=by simp[atKey,O]
   rw[lR e,b];exact h2
  simp_all[atKey,lS]
def KT.repl (r:KT H a8 xs)(k:List cZ)(O:aF y u):
  KT H (a8.map λkv=>if kv.1=k then (kv.1,y)else kv) (xs.map (putAt k u)):=by
 induction r with
 |nil=>exact .nil
 |@cons p q ps U h t M=>
  refine .cons ?_ M;unfold putAt;split<;>simp_all
def KT.put (r:KT H a8 xs)(k:List cZ)(hb:H b=some (.tup (k.map kV)))(M:aF y u):
  KT H (mW a8 k y) (storedH xs k b u):=by
 have e:(a8.any λkv=>decide (kv.1=k))=(atKey xs k).isSome:=by
  rw[xL,(r.val k).isSome_eq,Option.isSome_map]
 unfold mW storedH;rw[e];by_cases q:(atKey xs k).isSome=true
 .rw[if_pos q,if_pos q];exact r.repl k M
 .rw[if_neg q,if_neg q];exact Paired.snoc r ⟨rr,hb,M⟩
def KT.keeps (r:KT H a8 xs)(M:∀b ys,H b=some (.tup ys)->H' b=some (.tup ys)):KT H' a8 xs:=
 Paired.mapP r λ_ _ z=>⟨z.1,M _ _ z.2.1,z.2.2⟩
section
variable {P:Program}{w:World}{H:Hp}{h:Heap}{a:Addr}
def OD (ok:kI P w H h)(e:Rd H a u):bf P w H h a u:=e.ok ok
def A4 (ok:kI P w H h)(e:H a=some (.dK a8 ob)):h.get? a=some ob:=And.left (show bf P w H h a _ from ok a _ e)
def pT (ok:kI P w H h)(e:Rd H a (.dK a8 ob)):a8.length<=sizeLine/\(a == sysModules)=false/\∃vs,KV a8 vs/\h.DictOf (cn P w) a vs:=
 And.right (show bf P w H h a _ from OD ok e)
def o3 (ok:kI P w H h)(e:H a=some (.dK a8 ob)):a8.length<=sizeLine/\(a == sysModules)=false/\∃vs,KV a8 vs/\h.DictOf (cn P w) a vs:=pT ok (.inl e)
theorem nc (ok:kI P w H h)(e:H a=some (.tup (ks.map kV))):(tupleKind (cn P w)).is h ks a:=by
 obtain⟨_,its,r,o,h1,h2,n,h3⟩:=(show bf P w H h a _ from ok a _ e);exact⟨o,its.toArray,n,h1,h2,h3,by simpa using tO r⟩
def pU (ok:kI P w H h)(e:Rd H a (.dT a8)):a8.length<=sizeLine/\(a == sysModules)=false /\
  ∃xs,KT H a8 xs/\h.DictOfH (tupleKind (cn P w)) a xs:=by
 obtain⟨z,y,xs,r,o,es,M,h1,h2,h3,h4,h5⟩:=(show bf P w H h a _ from OD ok e);refine⟨z,y,xs,r,o,es,M,h1,h2,h3,h4,λx hx=>?_,h5⟩;have all:∀ {l:List _}{m:List _},KT H l m->∀x∈m,(tupleKind (cn P w)).is h x.1 x.2.1:=by
  intro l m q;induction q with
  |nil=>intro x hx;exact nomatch hx
  |@cons p q ps O hq t U=>
   grind[nc]
 exact all r x hx
def Ui (ok:kI P w H h)(e:H a=some (.dT a8)):a8.length<=sizeLine/\(a == sysModules)=false /\
  ∃xs,KT H a8 xs/\h.DictOfH (tupleKind (cn P w)) a xs:=pU ok (.inl e)
end
def pV (H:Hp)(a:Addr)(y:V)(r:Option V):Prop:=
 (∃a8 k ob,Rd H a (.dK a8 ob)/\y=kV k/\r=jl a8 k)\/∃a8 k b,Rd H a (.dT a8)/\y=.ref b/\H b=some (.tup (k.map kV))/\r=jl a8 k
def Uj (H:Hp)(a:Addr)(y v:V)(Q:Hp->Prop):Prop:=
 (∃a8 k ob,H a=some (.dK a8 ob)/\y=kV k/\a8.length<sizeLine/\∀M,Q (upd H a (.dK (mW a8 k v) M))) \/
 ∃a8 k b,H a=some (.dT a8)/\y=.ref b/\H b=some (.tup (k.map kV))/\a8.length<sizeLine/\Q (upd H a (.dT (mW a8 k v)))
section
variable {X:Cx}{af:AO}{σ:St}{H:Hp}{s:Shared}{a:Addr}{y v:V}{u r:Value}{o:Option V}{A:Around}{E:QV}
def Inv.big (I:Inv X af σ H s):sysModules<s.z:=by
 have h:=(I.mod.glob.keeps I.bk).lt;exact Nat.lt_trans O9 h
def Eb (hu:A.units+1<cLine)(I:Inv X af σ H s)(g:pV H a y (some v))(d:aF y u)(h:∀O s',Inv X af σ H s'->aF v O->Q O s'):
  wpAny (model X.prog X.w) A (getItem (.ref a) u) Q E s:=by
 rcases g with⟨a8,k,ob,e,U,l⟩|⟨a8,k,b,e,U,f,l⟩
 .subst U;obtain⟨z,hd,vs,rel,dd⟩:=pT I.hok e;obtain⟨O,hw,M⟩:=kH.some_of (by rw[l];exact rel.val k);exact wpAny_getItem_of (pR d) dd.mapOf hw (h O _ (I.tok _) M)
 .subst U;cases (show u=Value.ref b from d)
  obtain⟨z,hd,xs,rel,dd⟩:=pU I.hok e;obtain⟨O,hw,M⟩:=kH.some_of (by rw[l];exact rel.val k);obtain⟨p,hp,c⟩:=oY hw;refine wpAny_getItem_heap (tupleKind_room_in1 hu) (nc I.hok f) dd hp ?_;rw[c];exact h O _ (I.tok _) M
def X4 (hu:A.units+1<cLine)(I:Inv X af σ H s)(g:pV H a y o)(O:aF y u)(h:∀s',Inv X af σ H s'->Q (.bool o.isSome) s'):
  wpAny (model X.prog X.w) A (compareOp .In u (.ref a)) Q E s:=by
 rcases g with⟨a8,k,ob,e,M,l⟩|⟨a8,k,b,e,M,U,l⟩
 .subst M;obtain⟨z,hd,vs,rel,dd⟩:=pT I.hok e;refine wpAny_in_of (pR O) hd dd.mapOf ?_;rw[<-(rel.val k).isSome_eq,<-l];exact h _ (I.tok _)
 .subst M;cases (show u=Value.ref b from O)
  obtain⟨z,hd,xs,rel,dd⟩:=pU I.hok e;refine wpAny_in_heap (tupleKind_room_in1 hu) (nc I.hok U) hd dd ?_;have q:=(rel.val k).isSome_eq;rw[Option.isSome_map]at q;rw[<-q,<-l];exact h _ (I.tok _)
def LQ (hu:A.units+1<cLine)(I:Inv X af σ H s)(g:pV H a y o)(O:aF y u)(h:∀s',Inv X af σ H s'->Q (.bool (!o.isSome)) s'):
  wpAny (model X.prog X.w) A (compareOp .NotIn u (.ref a)) Q E s:=by
 rcases g with⟨a8,k,ob,e,M,l⟩|⟨a8,k,b,e,M,U,l⟩
 .subst M;obtain⟨z,hd,vs,rel,dd⟩:=pT I.hok e;refine wpAny_notIn_of (pR O) hd dd.mapOf ?_;rw[<-(rel.val k).isSome_eq,<-l];exact h _ (I.tok _)
 .subst M;cases (show u=Value.ref b from O)
  obtain⟨z,hd,xs,rel,dd⟩:=pU I.hok e;refine wpAny_notIn_heap (tupleKind_room_in1 hu) (nc I.hok U) hd dd ?_;have q:=(rel.val k).isSome_eq;rw[Option.isSome_map]at q;rw[<-q,<-l];exact h _ (I.tok _)
def vx (I:Inv X af σ H s)(M:Tz (H a))(hs:Heap.SameBut a s.heap h')(he:∃q,h'.get? a=some q)(new:bf X.prog X.w (upd H a ob) h' a ob):
  Inv X af σ (upd H a ob) { s with heap:=h',toks:=t' } :=
 I.write M (.inl rr) (λb q hb z=>(hs.2 b hb).trans z) he new
def Gh (z:a8.length<=sizeLine)(hd:(a == sysModules)=false)(rel:KV a8 vs)(dd:h'.DictOf (cn P w) a vs)(M:h'.get? a=some ob):
  bf P w H' h' a (.dK a8 ob):=⟨M,z,hd,vs,rel,dd⟩
def Ec (hu:A.units+1<cLine)(I:Inv X af σ H s)(g:Uj H a y v R)(d:aF y u)(f:aF v r)(h:∀H' s',R H'->Inv X af σ H' s'->Q () s'):
  wpAny (model X.prog X.w) A (setItem (.ref a) u r) Q E s:=by
 rcases g with⟨a8,k,ob,e,O,l,U⟩|⟨a8,k,b,e,O,i,l,U⟩
 .subst O;obtain⟨z,hd,vs,rel,dd⟩:=o3 I.hok e;have hz:vs.length<=sizeLine:=by rw[<-rel.length];exact z
  have hl:(mW a8 k v).length<=sizeLine:=by have:=jq a8 k v;lia
  refine wpAny_setItem_pairs (hsz:=hz) (pR d) dd λh' M hs=>?_;obtain⟨q,hq⟩:∃q,h'.get? a=some q:=let ⟨q,_,_,hq,_⟩:=M;⟨q,hq⟩;exact h _ _ (U q) (vx I (by rw[e];exact True.intro) hs ⟨q,hq⟩ (Gh hl hd (rel.put k f) M hq))
 .subst O;cases (show u=Value.ref b from d)
  obtain⟨z,hd,xs,rel,dd⟩:=Ui I.hok e;have hz:xs.length<=sizeLine:=by rw[<-Paired.length rel];exact z
  have hl:(mW a8 k v).length<=sizeLine:=by have:=jq a8 k v;lia
  refine wpAny_setItem_heap (hsz:=hz) (tupleKind_room_in1 hu) (nc I.hok i) dd λh' M hs=>h _ _ U ?_;obtain⟨q,es,m,hq,h2,h3,h4,_,h5⟩:=M;refine vx I (by rw[e];exact True.intro) hs ⟨q,hq⟩ ⟨hl,hd,_,(rel.put k i f).keeps λc ys j=>?_,q,es,m,hq,h2,h3,h4,h5⟩;rw[a5 (Tw j e (λz=>nomatch z))];exact j
end
def Qk (i:Expr):Prop:=∀M iv,subscripted i false M iv=operate [M,iv] (getItem M iv)
def LR {prog:Program}{w:World}{A:Around}{E:QV}{s:Shared}{env:Env}{O M:Expr}{f:Pos}{T id:String}{Q:QV}
  (hl:typeLookup (.type T) "__getitem__" = pure (some (.builtin id))) (hs:Qk M)
  (h:wpAny (model prog w) A (eval O env) (λo b=>wpAny (model prog w) A (eval M env) (λi U=>U.TypeIs o T/\wpAny (model prog w) A (getItem o i) Q E U) E b) E s):
  wpAny (model prog w) A (eval (.Subscript O M f) env) Q E s:=by
 refine Subscript_ (wpAny_mono h (λo b d=>wpAny_mono d (λi U a=>?_) λ_ _ x=>x) λ_ _ x=>x);obtain⟨g,a⟩:=a;refine wX ?_;refine wX (wpAny_specialOf g hl ?_);have dI:wpAny (model prog w) A (subscripted M false o i) (λr c=>wpAny (model prog w) A (letTemporaryGo O o r>>=λ_=>pure r) Q E c) E U:=by
  rw[hs o i];exact wpAny_operating (wpAny_mono a (λr c e=>wX (wpAny_letTemporaryGo (wY e))) λ_ _ x=>x)
 first
  |exact wY (wX dI)
  |exact wX _
  |exact wX _
def xM (I:Inv X af σ H s)(g:pV H a y o):s.TypeIs (.ref a) "dict":=by
 rcases g with⟨a8,k,M,e,_,_⟩|⟨a8,k,b,e,_,_,_⟩
 .obtain⟨_,_,vs,_,dd⟩:=pT I.hok e;exact dd.typeIs
 .obtain⟨_,_,xs,_,dd⟩:=pU I.hok e;exact dd.typeIs
def Uk (M ty:TE):TE:=λσ H Q=>M σ H λx O=>ty σ O λy H2=>∃a v,x=.ref a/\pV H2 a y (some v)/\Q v H2
def X5 (ty M:TE):TE:=λσ H Q=>ty σ H λy O=>M σ O λx H2=>∃a o,x=.ref a/\pV H2 a y o/\Q (.bl o.isSome) H2
def LW (ty M:TE):TE:=λσ H Q=>ty σ H λy O=>M σ O λx H2=>∃a o,x=.ref a/\pV H2 a y o/\Q (.bl (!o.isSome)) H2
def BS (M ty O:TE):TS:=λD σ H=>O σ H λv U=>M σ U λx H2=>ty σ H2 λy b=>∃a,x=.ref a/\Uj b a y v (D.nx σ)
section
variable {X:Cx}{o i e value:Expr}{pos KR Sr:Pos}{td ty tv:TE}
def LX (hu:X.A.units+1<cLine)(ho:PE X o td)(hi:PE X i ty)(hs:Qk i):PE X (.Subscript o i pos) (Uk td ty):=by
 intro af s σ H Q I h;refine LR PySem.F.slot_dict_getitem.lookup hs (bI (ho _ s σ H _ I h) λu s1 ⟨x,U,b,c,d⟩=>bI (hi _ s1 σ U _ b d) λiv s2 ⟨y,H2,O,f,a,v,ex,g,q2⟩=>?_);subst ex;obtain rfl:u=Value.ref a:=c;exact⟨xM O g,Eb hu O g f λk l j M=>⟨v,H2,j,M,q2⟩⟩
def Ql (hu:X.A.units+1<cLine)(hi:PE X i ty)(ho:PE X o td):PC X .In i o (X5 ty td):=by
 intro af s σ H Q I h;refine bI (hi _ s σ H _ I h) λiv s1 ⟨y,M,O,U,b⟩=>bI (ho _ s1 σ M _ O b) λu s2 ⟨x,H2,c,d,a,j,ex,g,q2⟩=>?_;subst ex;obtain rfl:u=Value.ref a:=d;exact X4 hu c g U λk f=>⟨.bl _,H2,f,rr,q2⟩
def Ed (hu:X.A.units+1<cLine)(hi:PE X i ty)(ho:PE X o td):PC X .NotIn i o (LW ty td):=by
 intro af s σ H Q I h;refine bI (hi _ s σ H _ I h) λiv s1 ⟨y,M,O,U,b⟩=>bI (ho _ s1 σ M _ O b) λu s2 ⟨x,H2,c,d,a,j,ex,g,q2⟩=>?_;subst ex;obtain rfl:u=Value.ref a:=d;exact LQ hu c g U λk f=>⟨.bl _,H2,f,rr,q2⟩
def vy (hu:X.A.units+1<cLine)(ho:PE X o td)(hi:PE X i ty)(hv:PE X value tv)(hs:swapsWith value (some (.Subscript o i KR)) pos.line X.env=pure false):
  PS X (.Assign [.Subscript o i KR] value pos) (BS td ty tv):=by
 intro af s σ H D I h;refine wpAny_Assign_Subscript (bI (hv _ s σ H _ I h) λr s1 ⟨v,M,O,U,b⟩=>bI (ho _ s1 σ M _ O b) λu s2 ⟨x,H2,c,d,q2⟩=>bI (hi _ s2 σ H2 _ c q2) λiv n ⟨y,p,f,j,a,ex,g⟩=>?_) hs;subst ex;obtain rfl:u=Value.ref a:=d;exact Ec hu f g j U λk q l m=>⟨σ,k,m,l⟩
end
def xN (h:Heap)(hb:sysModules<h.objs.size):bf P w H (h.push { cls:=.type "dict",data:=.dict #[] }) h.objs.size (.dK [] { cls:=.type "dict",data:=.dict #[] }):=
 ⟨vY _ rr,uN _,beq_eq_false_iff_ne.mpr (Ne.symm (vS hb)),[],.nil,Heap.DictOf.new h⟩
def Gi (h:Heap)(hb:sysModules<h.objs.size):bf P w H (h.push { cls:=.type "dict",data:=.dict #[] }) h.objs.size (.dT []):=
 ⟨uN _,beq_eq_false_iff_ne.mpr (Ne.symm (vS hb)),[],.nil,_,#[],0,vY _ rr,⟨rr,rr,rr⟩,rr,rr,nodup_nil⟩
def Gj:TE:=λ_ H Q=>∀p ob,H p=none->Q (.ref p) (upd H p (.dK [] ob))
def Gk:TE:=λ_ H Q=>∀p,H p=none->Q (.ref p) (upd H p (.dT []))
section
variable {X:Cx}{pos:Pos}
def Gm:PE X (.Dict [] [] pos) Gj:=λaf s σ H Q I h=>
 wpAny_Dict_empty ⟨.ref _,_,I.laid (λ_ _ q=>vZ _ q) (vT _) (xN _ I.big),rr,h _ _ (I.hok.fresh (vT _))⟩
def Gn:PE X (.Dict [] [] pos) Gk:=λaf s σ H Q I h=>
 wpAny_Dict_empty ⟨.ref _,_,I.laid (λ_ _ q=>vZ _ q) (vT _) (Gi _ I.big),rr,h _ (I.hok.fresh (vT _))⟩
end
structure M1 (X:Cx)(o:Expr)(m:Str)(cm:Pos)(e:Expr)(b8:Pos):Prop where
 base:attributeBase o m X.env (eval o X.env)=eval o X.env
 few:((backTo b8 (starEach [e] X.env)).all (λx=>!x.1) && (backToKw b8 (keywordEach [] X.env)).all (λx=>x.1.isSome)
  && decide (([e]:List Expr).length+([]:List Keyword).length+(if([]:List Keyword).isEmpty then 0 else 1)<30))=true
 line:(cm.endLine == b8.line)=true
 trees:backTo b8 (starEach [e] X.env)=[(false,eval e X.env)]
def ZG (H:Hp)(a:Addr):Prop:=(∃a8 ob,Rd H a (.dK a8 ob))\/∃a8,Rd H a (.dT a8)
def Qm (I:Inv X af σ H s)(d:ZG H a):
  s.TypeIs (.ref a) "dict"/\(∀b,Value.ref a=.ref b->∃ob,s.heap.get? b=some ob/\ob.dict=none)/\(a == sysModules)=false:=by
 rcases d with⟨a8,M,e⟩|⟨a8,e⟩
 .obtain⟨_,hd,vs,_,dd⟩:=pT I.hok e;refine⟨dd.typeIs,λb q=>?_,hd⟩;cases q
  obtain⟨ob,_,_,h1,h2,_⟩:=dd;exact⟨ob,h1,h2.2.1⟩
 .obtain⟨_,hd,xs,_,dd⟩:=pU I.hok e;refine⟨dd.typeIs,λb q=>?_,hd⟩;cases q
  obtain⟨ob,_,_,h1,h2,_⟩:=dd;exact⟨ob,h1,h2.2.1⟩
section
variable {X:Cx}{af:AO}{σ:St}{H:Hp}{s:Shared}{a:Addr}{y d:V}{u r:Value}{o:Option V}{A:Around}{E:QV}
def Qn (hu:A.units+1<cLine)(I:Inv X af σ H s)(g:pV H a y o)(O:aF y u)(h:∀U s',Inv X af σ H s'->aF (o.getD .non) U->Q U s'):
  wpAny (model X.prog X.w) A (call (.builtin "dict.get") [.ref a,u]) Q E s:=by
 rcases g with⟨a8,k,ob,e,M,l⟩|⟨a8,k,b,e,M,c,l⟩
 .subst M;obtain⟨z,hd,vs,rel,dd⟩:=pT I.hok e;refine call_meetsIn slot_dict_get dd.typeIs entry_dict_get (PySem.F.args_dict_get_2 _ _) (meets_dict_get _ a (pR O) hd) ⟨_,dd.mapOf,h _ _ (I.tok _) ?_⟩;rw[l];exact(rel.val k).getD rr
 .subst M;cases (show u=Value.ref b from O)
  obtain⟨z,hd,xs,rel,dd⟩:=pU I.hok e;refine call_meetsIn slot_dict_get dd.typeIs entry_dict_get (PySem.F.args_dict_get_2 _ _) (meetsH_dict_get _ a b hd) ⟨tupleKind_room_in1 hu,k,xs,nc I.hok c,dd,h _ _ (I.tok _) ?_⟩;rw[l];exact(rel.val k).getD rr
end
def Qo (O ty:TE):TE:=λσ H Q=>O σ H λx M=>∃a,x=.ref a/\ZG M a/\ty σ M λy H2=>∃o,pV H2 a y o/\Q (o.getD .non) H2
section
variable {X:Cx}{o e f:Expr}{cm b8:Pos}{td ty tx:TE}
def xO (hu:X.A.units+1<cLine)(ho:PE X o td)(he:PE X e ty)(m:M1 X o "get" cm e b8):PE X (.Call (.Attribute o "get" cm) [e] [] b8) (Qo td ty):=by
 intro af s σ H Q I h;refine wpAny_Call_method m.base m.few m.line plainAttrs_dict slot_dict_get PySem.F.type_dict_get (bI (ho _ s σ H _ I h) λu s1 ⟨x,U,O,b,a,ex,d,c⟩=>?_);subst ex;obtain rfl:u=Value.ref a:=b;obtain⟨i,j,_⟩:=Qm O d;refine⟨i,j,?_⟩;rw[m.trees];refine Calls.callWith_builtin rr (Calls.evalArgs_plain (Calls.spliced_cons (bI (he _ s1 σ U _ O c) λiv s2 ⟨y,H2,k,l,p,g,q2⟩=>Calls.spliced_nil ?_)));exact Qn hu k g l λq r n M=>⟨_,H2,n,M,q2⟩
end
end L2
namespace DL
open PySem L2
abbrev St:=L2.St
set_option genInjectivity true in
inductive D where
 |non|bl (b:Bool)|int (i:Int)|str (x:Str)|ty (n:String)|tup (ds:List D)|lst (ds:List D)
  |dk (ks:List cZ) (vs:List D)|dt (ks:List (List cZ)) (vs:List D)
abbrev LD:=List D
abbrev LV:=List V
abbrev LK:=List cZ
abbrev OB:=Option (D×Bool)
mutual
inductive Is (K:Frag)(H:Hp):V->D->Prop where
 |non:Is K H .non .non
 |bl (b:Bool):Is K H (.bl b) (.bl b)
 |int (i:Int):Is K H (.int i) (.int i)
 |str (x:Str):Is K H (.str x) (.str x)
 |ty (n:String):Is K H (.ty n) (.ty n)
 |tup {a:Addr}{vs:List V}{ds:List D}(h:gF K H a vs) (hs:IsL K H vs ds):Is K H (.ref a) (.tup ds)
 |lst {a:Addr}{vs:List V}{ds:List D}(h:fD K H a vs) (hs:IsL K H vs ds):Is K H (.ref a) (.lst ds)
 |dk {a:Addr}{ks:List cZ}{vs:List V}{ds:List D}{ob:Obj}(h:H a=some (.dK (ks.zip vs) ob)) (hl:ks.length=vs.length) (hs:IsL K H vs ds):Is K H (.ref a) (.dk ks ds)
 |dt {a:Addr}{ks:List (List cZ)}{vs:List V}{ds:List D}(h:H a=some (.dT (ks.zip vs))) (hl:ks.length=vs.length) (hs:IsL K H vs ds):Is K H (.ref a) (.dt ks ds)
inductive IsL (K:Frag)(H:Hp):List V->List D->Prop where
 |nil:IsL K H [] []
 |cons {v:V}{d:D}{vs:List V}{ds:List D}(h:Is K H v d) (hs:IsL K H vs ds):IsL K H (v::vs) (d::ds)
end
mutual
def aO:D->Bool
 |.lst _=>false
 |.dk _ _=>false
 |.dt _ _=>false
 |.tup ds=>aZ ds
 |_=>true
def aZ:LD->Bool
 |[]=>true
 |d::ds=>aO d && aZ ds
end
@[simp] def SJ:aO .non=true:=by simp only[aO]
@[simp] def Ul (b:Bool):aO (.bl b)=true:=by simp only[aO]
@[simp] def SK (i:Int):aO (.int i)=true:=by simp only[aO]
@[simp] def SM (x:Str):aO (.str x)=true:=by simp only[aO]
@[simp] def Um (x:String):aO (.ty x)=true:=by simp only[aO]
@[simp] def SN (ds:LD):aO (.tup ds)=aZ ds:=by rw[aO]
@[simp] def SO (ds:LD):aO (.lst ds)=false:=by rw[aO]
@[simp] def Uo (ks:LK)(ds:LD):aO (.dk ks ds)=false:=by rw[aO]
@[simp] def Ur (ks:List LK)(ds:LD):aO (.dt ks ds)=false:=by rw[aO]
@[simp] def Qp:aZ []=true:=by rw[aZ]
@[simp] def OE (d:D)(ds:LD):aZ (d::ds)=(aO d && aZ ds):=by rw[aZ]
section
variable {K:Frag}{H H':Hp}
mutual
theorem Is.keep (M:∀a vs,gF K H a vs->gF K H' a vs)(O:∀a vs,fD K H a vs->fD K H' a vs)(U:∀a a8 ob,H a=some (.dK a8 ob)->H' a=some (.dK a8 ob))(c:∀a a8,H a=some (.dT a8)->H' a=some (.dT a8)):∀ {v:V}{d:D},Is K H v d->Is K H' v d
 |_,_,.non=>.non
 |_,_,.bl b=>.bl b
 |_,_,.int i=>.int i
 |_,_,.str x=>.str x
 |_,_,.ty x=>.ty x
 |_,_,.tup h hs=>.tup (M _ _ h) (IsL.keep M O U c hs)
 |_,_,.lst h hs=>.lst (O _ _ h) (IsL.keep M O U c hs)
 |_,_,.dk h hl hs=>.dk (U _ _ _ h) hl (IsL.keep M O U c hs)
 |_,_,.dt h hl hs=>.dt (c _ _ h) hl (IsL.keep M O U c hs)
theorem IsL.keep (M:∀a vs,gF K H a vs->gF K H' a vs)(O:∀a vs,fD K H a vs->fD K H' a vs)(U:∀a a8 ob,H a=some (.dK a8 ob)->H' a=some (.dK a8 ob))(b:∀a a8,H a=some (.dT a8)->H' a=some (.dT a8)):∀ {vs:LV}{ds:LD},IsL K H vs ds->IsL K H' vs ds
 |_,_,.nil=>.nil
 |_,_,.cons h hs=>.cons (Is.keep M O U b h) (IsL.keep M O U b hs)
end
mutual
theorem Is.keepT (M:∀a vs,gF K H a vs->gF K H' a vs):∀ {v:V}{d:D},Is K H v d->aO d=true->Is K H' v d
 |_,_,.non,_=>.non
 |_,_,.bl b,_=>.bl b
 |_,_,.int i,_=>.int i
 |_,_,.str x,_=>.str x
 |_,_,.ty x,_=>.ty x
 |_,_,.tup h hs,n=>.tup (M _ _ h) (IsL.keepT M hs (by simpa using n))
 |_,_,.lst h hs,n=>by simp at n
 |_,_,.dk h hl hs,n=>by simp at n
 |_,_,.dt h hl hs,n=>by simp at n
theorem IsL.keepT (M:∀a vs,gF K H a vs->gF K H' a vs):∀ {vs:LV}{ds:LD},IsL K H vs ds->aZ ds=true->IsL K H' vs ds
 |_,_,.nil,_=>.nil
 |_,_,.cons h hs,n=>by
  simp at n;exact .cons (Is.keepT M h n.1) (IsL.keepT M hs n.2)
end
def aV (e:aH H H')(h:gF K H a xs):gF K H' a xs:=by
 rcases h with (h|⟨o,h⟩)|h
 .exact .inl (.inl (e _ _ h))
 .exact .inl (.inr ⟨o,e _ _ h⟩)
 .exact .inr h
def Is.mono (h:Is K H v d)(e:aH H H'):Is K H' v d:=h.keep (λ_ _=>aV e) (λ_ _=>e.seq) (λ_ _ _ q=>e _ _ q) λ_ _ q=>e _ _ q
def IsL.mono (h:IsL K H v d)(e:aH H H'):IsL K H' v d:=h.keep (λ_ _=>aV e) (λ_ _=>e.seq) (λ_ _ _ q=>e _ _ q) λ_ _ q=>e _ _ q
theorem IsL.length:∀ {vs:LV}{ds:LD},IsL K H vs ds->vs.length=ds.length
 |_,_,.nil=>rr
 |_,_,.cons _ t=>congrArg _ t.length
theorem IsL.get:∀ {vs:LV}{ds:LD}{i:Nat}{d:D},IsL K H vs ds->ds[i]? = some d->∃v,vs[i]? = some v/\Is K H v d
 |_,_,_,_,.nil,e=>by simp at e
 |_,_,0,_,.cons h _,e=>by simp_all
 |_,_,i+1,d,.cons _ t,e=>by
  obtain⟨u,h1,h2⟩:=t.get (by simpa using e);simp_all
theorem IsL.append:∀ {vs ws:LV}{ds es:LD},IsL K H vs ds->IsL K H ws es->IsL K H (vs++ws) (ds++es)
 |_,_,_,_,.nil,s=>s
 |_,_,_,_,.cons r t,s=>.cons r (t.append s)
theorem IsL.take:∀ {vs:LV}{ds:LD}(n:Nat),IsL K H vs ds->IsL K H (vs.take n) (ds.take n)
 |_,_,0,_=>by simpa using IsL.nil
 |_,_,_+1,.nil=>.nil
 |_,_,n+1,.cons r t=>.cons r (t.take n)
theorem IsL.drop:∀ {vs:LV}{ds:LD}(n:Nat),IsL K H vs ds->IsL K H (vs.drop n) (ds.drop n)
 |_,_,0,r=>r
 |_,_,_+1,.nil=>.nil
 |_,_,n+1,.cons _ t=>t.drop n
theorem IsL.set (h:Is K H v d):∀ {vs:LV}{ds:LD}(i:Nat),IsL K H vs ds->IsL K H (vs.set i v) (ds.set i d)
 |_,_,_,.nil=>.nil
 |_,_,0,.cons _ t=>.cons h t
 |_,_,i+1,.cons r t=>.cons r (IsL.set h i t)
def IsL.flat {vs:LV}{ns:LI}(h:vs=ns.map V.int):IsL K H vs (ns.map D.int):=by
 subst h;induction ns with
 |nil=>exact .nil
 |cons n ns M=>exact .cons (.int n) M
end
structure Ext (B N H H':Hp):Prop where
 hh:aH H H'
 bn:aH B N
 nh:aH N H'
 new:∀a o,N a=some o->B a=some o\/H a=none
def Ext.refl (h:aH B H):Ext B B H H:=⟨.refl _,.refl _,h,λ_ _ e=>.inl e⟩
def Ext.trans (x:Ext B N H M)(y:Ext N N2 M H2):Ext B N2 H H2:=
 ⟨x.hh.trans y.hh,x.bn.trans y.bn,y.nh,λa o e=>(y.new a o e).elim (λq=>x.new a o q) λq=>.inr (x.hh.free q)⟩
def Ext.laid (h:aH B H)(hp:H p=none):Ext B (upd B p o) H (upd H p o):=by
 have M:=h.free hp;refine⟨λa u e=>?_,λa u e=>?_,λa u e=>?_,λa u e=>?_⟩
 .grind[a5]
 .grind[a5]
 .by_cases q:a=p
  .simp_all[au]
  .rw[a5 q]at e |-;exact h _ _ e
 grind[a5]
def Ext.grow (h:aH B H)(hh:aH H H'):Ext B B H H':=⟨hh,.refl _,h.trans hh,λ_ _ e=>.inl e⟩
abbrev Env:=List OB
abbrev FE:=Env->OB
abbrev FA:=Env->Option LD
abbrev FT:=Env->Option Bool
def SQ (K:Frag)(H N:Hp)(v:V):D->Prop
 |.tup ds=>∃(a:Addr)(vs:LV),v=.ref a/\gF K N a vs/\IsL K N vs ds/\∀(i:Nat)(es:LD),ds[i]? = some (.lst es)->∃(b:Addr)(us:LV),vs[i]? = some (.ref b)/\H b=none/\N b=some (.lst us)/\IsL K N us es
 |d=>∃(a:Addr)(vs:LV)(ds:LD),v=.ref a/\d=.lst ds/\H a=none/\N a=some (.lst vs)/\IsL K N vs ds
def SQ.back (h:SQ K H' N v d)(e:aH H H'):SQ K H N v d:=by
 cases d
 case tup=>exact let ⟨a,vs,q,y,z,r⟩:=h;⟨a,vs,q,y,z,λi es g=>let ⟨b,us,g1,M,O⟩:=r i es g;⟨b,us,g1,e.free M,O⟩⟩
 all_goals exact let ⟨a,vs,ds,q,y,z,r⟩:=h;⟨a,vs,ds,q,y,e.free z,r⟩
noncomputable def jr:LS:=["in_order","has_seal","is_first_death","bases_by","as_heard"]
noncomputable def tm (x:Str):Str:=x ++ ".<locals>." ++ "<lambda>"
def Tb (K:Frag)(B:Hp):Prop:=∀x∈jr,∀c P,PySem.W.tabIn K x=some (c,P)->B P=some (.tbl (tm x))
def Tb.mono (h:Tb K B)(e:aH B M):Tb K M:=λx hx c P q=>e _ _ (h x hx c P q)
structure ej (K:Frag)(B:Hp)(σ:St)(ρ:Env):Prop where
 tb:Tb K B
 at':∀(i:Nat)(d:D)(b:Bool),ρ[i]? = some (some (d,b))->∃v,σ[i]? = some (some v)/\Is K B v d
def ej.mono (h:ej K B σ ρ)(e:aH B M):ej K M σ ρ:=⟨h.tb.mono e,λi d b q=>let ⟨v,h1,h2⟩:=h.at' i d b q;⟨v,h1,h2.mono e⟩⟩
def Fin (K:Frag)(B H:Hp)(d:D)(b:Bool)(Q:VK):Prop:=∀(v:V)(H' N:Hp),Ext B N H H'->Is K N v d->(b=true->SQ K H N v d)->Q v H'
def tD (K:Frag)(f:FE):TE:=λσ H Q=>∃(B:Hp)(ρ:Env)(d:D)(b:Bool),aH B H/\ej K B σ ρ/\f ρ=some (d,b)/\Fin K B H d b Q
def BU (K:Frag)(f:FT):TT:=λσ H Q=>∃(B:Hp)(ρ:Env)(c:Bool),aH B H/\ej K B σ ρ/\f ρ=some c/\∀H',aH H H'->Q c H'
def SR (K:Frag)(f:FA):TA:=λσ H Q=>∃(B:Hp)(ρ:Env)(ds:LD),aH B H/\ej K B σ ρ/\f ρ=some ds/\∀(vs:LV)(H' N:Hp),Ext B N H H'->IsL K N vs ds->Q vs H'
def rD (K:Frag)(op:D->D->OB):R2:=λx y H Q=>∃(B:Hp)(dx M d:D)(b:Bool),aH B H/\Is K B x dx/\Is K B y M/\op dx M=some (d,b)/\Fin K B H d b Q
def X6 (K:Frag)(op:D->OB):V->Hp->VK->Prop:=λx H Q=>∃(B:Hp)(dx d:D)(b:Bool),aH B H/\Is K B x dx/\op dx=some (d,b)/\Fin K B H d b Q
def xA (K:Frag)(op:LD->OB):LV->Hp->VK->Prop:=λxs H Q=>∃(B:Hp)(ds:LD)(d:D)(b:Bool),aH B H/\IsL K B xs ds/\op ds=some (d,b)/\Fin K B H d b Q
theorem Fin.one (h:Fin K B H d false Q)(s:aH B H)(i:Is K B v d):Q v H:=h v H B (.refl s) i H9
def Fin.into (h:Fin K B H d b Q)(x:Ext B N H O):Fin K N O d b Q:=λv H' N' y i M=>h v H' N' (x.trans y) i λe=>(M e).back x.hh
@[simp] def fC (d:D):FE:=λ_=>some (d,false)
@[simp] noncomputable def am (i:Nat):FE:=λρ=>match ρ[i]? with|some (some (d,_))=>some (d,false)|_=>none
@[simp] noncomputable def f2 (op:D->D->OB)(fa M:FE):FE:=λρ=>(fa ρ).bind λx=>(M ρ).bind λy=>op x.1 y.1
@[simp] noncomputable def f1 (op:D->OB)(fa:FE):FE:=λρ=>(fa ρ).bind λx=>op x.1
@[simp] def av:FA:=λ_=>some []
@[simp] noncomputable def ai (fa:FE)(M:FA):FA:=λρ=>(fa ρ).bind λx=>(M ρ).bind λxs=>some (x.1::xs)
@[simp] noncomputable def fA (op:LD->OB)(fa:FA):FE:=λρ=>(fa ρ).bind op
def Qq (h:tD K (am i) σ H Q):∃v,σ[i]? = some (some v)/\Q v H:=by
 obtain⟨B,ρ,d,b,s,r,e,q⟩:=h;unfold am at e;split at e
 .rename_i d' b' M;cases e
  obtain⟨v,h1,h2⟩:=r.at' i _ _ M;exact⟨v,h1,q.one s h2⟩
 simp_all
def LY (h:tD K (f2 op fa fb) σ H Q):tD K fa σ H λx U=>tD K fb σ U λy H2=>rD K op x y H2 Q:=by
 obtain⟨B,ρ,d,b,s,r,e,q⟩:=h;obtain⟨x,ex,e⟩:=oX e;obtain⟨y,a,e⟩:=oX e;refine⟨B,ρ,x.1,x.2,s,r,ex,λv U N M i1 _=>⟨N,ρ,y.1,y.2,M.nh,r.mono M.bn,a,λc H2 N2 O i2 _=>⟨N2,x.1,y.1,d,b,O.nh,i1.mono O.bn,i2,e,?_⟩⟩⟩;exact q.into (M.trans O)
def X7 (h:tD K (f1 op fa) σ H Q):tD K fa σ H λx M=>X6 K op x M Q:=by
 obtain⟨B,ρ,d,b,s,r,e,q⟩:=h;obtain⟨x,ex,e⟩:=oX e;exact⟨B,ρ,x.1,x.2,s,r,ex,λv M N O i1 _=>⟨N,x.1,d,b,O.nh,i1,e,q.into O⟩⟩
def LZ (h:tD K (fA op fa) σ H Q):SR K fa σ H λxs M=>xA K op xs M Q:=by
 obtain⟨B,ρ,d,b,s,r,e,q⟩:=h;obtain⟨x,ex,e⟩:=oX e;exact⟨B,ρ,x,s,r,ex,λv M N O i1=>⟨N,x,d,b,O.nh,i1,e,q.into O⟩⟩
def Ma (h:SR K av σ H Q):Q [] H:=by
 obtain⟨B,ρ,ds,s,r,e,q⟩:=h;cases e
 exact q [] H B (.refl s) .nil
def Go (h:SR K (ai fa fr) σ H Q):tD K fa σ H λx O=>SR K fr σ O λxs H2=>Q (x::xs) H2:=by
 obtain⟨B,ρ,ds,s,r,e,q⟩:=h;obtain⟨x,ex,e⟩:=oX e;obtain⟨y,a,e⟩:=oX e;cases e
 exact⟨B,ρ,x.1,x.2,s,r,ex,λv O N M i1 _=>⟨N,ρ,y,M.nh,r.mono M.bn,a,λvs H2 N2 U i2=>q _ H2 N2 (M.trans U) (.cons (i1.mono U.bn) i2)⟩⟩
@[simp] noncomputable def bx (f:FE):FT:=λρ=>match f ρ with|some (.bl c,_)=>some c|_=>none
@[simp] noncomputable def fg (f g:FT):FT:=λρ=>match f ρ with|some true=>g ρ|some false=>some false|none=>none
@[simp] noncomputable def iF (f g:FT):FT:=λρ=>match f ρ with|some true=>some true|some false=>g ρ|none=>none
@[simp] noncomputable def jh (f:FT):FT:=λρ=>(f ρ).map (!·)
open Classical in
noncomputable def df (H:Hp)(P:Addr->Prop):Hp:=λa=>if P a then none else H a
theorem cf (h:¬P a):df H P a=H a:=by unfold df;rw[if_neg h]
theorem A5 (h:P a):df H P a=none:=by unfold df;rw[if_pos h]
theorem jt (h:df H P a=some o):¬P a/\H a=some o:=by
 grind[A5,cf]
def bp:aH (df H P) H:=λ_ _ e=>(jt e).2
def dr (e:∀a o,H a=some o->¬P a->H' a=some o/\¬M a):aH (df H P) (df H' M):=λa o q=>by
 grind[jt,cf]
noncomputable def join (N N':Hp):Hp:=λa=>match N a with|some o=>some o|none=>N' a
def dj:aH N (join N N'):=λa o e=>by unfold join;rw[e]
def da (e:N a=none):join N N' a=N' a:=by unfold join;rw[e]
def own (σ:St)(ρ:Env)(a:Addr):Prop:=∃(i:Nat)(d:D),ρ[i]? = some (some (d,true))/\σ[i]? = some (some (V.ref a))
inductive Bx (K:Frag)(C:Hp):HO->D->Prop where
 |lst {vs:List V}{ds:List D}(h:IsL K C vs ds):Bx K C (.lst vs) (.lst ds)
 |dk {ks:List cZ}{vs:List V}{ds:List D}(hl:ks.length=vs.length) (h:IsL K C vs ds) {ob:Obj}:Bx K C (.dK (ks.zip vs) ob) (.dk ks ds)
 |dt {ks:List (List cZ)}{vs:List V}{ds:List D}(hl:ks.length=vs.length) (h:IsL K C vs ds):Bx K C (.dT (ks.zip vs)) (.dt ks ds)
def Bx.mono (h:Bx K C o d)(e:aH C M):Bx K M o d:=by
 cases h with
 |lst h=>exact .lst (h.mono e)
 |dk hl h=>exact .dk hl (h.mono e)
 |dt hl h=>exact .dt hl (h.mono e)
def Bx.is (h:Bx K C o d)(e:C a=some o):Is K C (.ref a) d:=by
 cases h with
 |lst h=>exact .lst (fD.of e) h
 |dk hl h=>exact .dk e hl h
 |dt hl h=>exact .dt e hl h
structure cQ (K:Frag)(B0 H0 N H:Hp)(σ:St)(ρ:Env):Prop where
 bh:aH B0 H0
 tb:Tb K B0
 ext:Ext B0 N H0 H
 len:ρ.length=σ.length
 sh:∀(i:Nat)(d:D),ρ[i]? = some (some (d,false))->∃v,σ[i]? = some (some v)/\Is K (df N (own σ ρ)) v d
 ow:∀(i:Nat)(d:D),ρ[i]? = some (some (d,true))->∃(a:Addr)(o:HO),σ[i]? = some (some (V.ref a))/\N a=some o/\H0 a=none/\Bx K (df N (own σ ρ)) o d
 inj:∀(i j:Nat)(a:Addr)(d e:D),ρ[i]? = some (some (d,true))->ρ[j]? = some (some (e,true))->σ[i]? = some (some (V.ref a))->σ[j]? = some (some (V.ref a))->i=j
def vz (K:Frag)(B0 H0 H:Hp)(σ:St)(ρ:Env):Prop:=∃N,cQ K B0 H0 N H σ ρ
section
variable {K:Frag}{B0 H0 N H H':Hp}{σ:St}{ρ:Env}
def cQ.owL (s:cQ K B0 H0 N H σ ρ)(i:Nat)(d:D)(q:ρ[i]? = some (some (.lst es,true)))(hd:d=.lst es:=by rfl):∃(a:Addr)(vs:LV)(ds:LD),d=.lst ds/\σ[i]? = some (some (V.ref a))/\N a=some (.lst vs)/\H0 a=none/\IsL K (df N (own σ ρ)) vs ds:=by
 obtain⟨a,o,h1,h2,h3,h4⟩:=s.ow i _ q;cases h4 with
 |lst h4=>exact⟨a,_,es,hd,h1,h2,h3,h4⟩
def boxed:HO->Prop
 |.lst _|.dK _ _|.dT _=>True
 |_=>False
def Bx.boxed (h:Bx K C o d):boxed o:=by cases h<;>exact trivial
def cQ.owned (s:cQ K B0 H0 N H σ ρ)(h:own σ ρ a):∃o,(N a=some o/\boxed o)/\H0 a=none:=by
 obtain⟨i,d,h1,h2⟩:=h;obtain⟨O,o,h3,h4,h5,M⟩:=s.ow i d h1;rw[h2]at h3;cases h3;exact⟨o,⟨h4,M.boxed⟩,h5⟩
def cQ.rep (s:cQ K B0 H0 N H σ ρ):ej K N σ ρ:=⟨s.tb.mono s.ext.bn,λi d b q=>by
 cases b with
 |false=>obtain⟨v,h1,h2⟩:=s.sh i d q;exact⟨v,h1,h2.mono bp⟩
 |true=>
  obtain⟨a,o,h2,h3,_,h4⟩:=s.ow i d q;exact⟨_,h2,(h4.mono bp).is h3⟩⟩
noncomputable def jm (ρ:Env):Env:=ρ.map λx=>match x with|some (d,false)=>some (d,false)|_=>none
def Gp {i:Nat}{d:D}{b:Bool}(h:(jm ρ)[i]? = some (some (d,b))):b=false/\ρ[i]? = some (some (d,false)):=by
 unfold jm at h;rw[vA]at h;cases e:ρ[i]? with
 |none=>rw[e]at h;cases h
 |some x=>
  rw[e]at h;match x,h with
  |some (d',false),h=>cases h;exact⟨rr,rr⟩
  |some (d',true),h=>cases h
  |none,h=>cases h
def cQ.tbC (s:cQ K B0 H0 N H σ ρ):Tb K (df N (own σ ρ)):=λx hx c P q=>by
 have z:=s.tb.mono s.ext.bn x hx c P q;rw[cf]
 .exact z
 .intro y;obtain⟨o,⟨y,M⟩,_⟩:=s.owned y;rw[z]at y;cases y;exact M
def cQ.repH (s:cQ K B0 H0 N H σ ρ):ej K (df N (own σ ρ)) σ (jm ρ):=⟨s.tbC,λi d b q=>by
 obtain⟨rfl,q2⟩:=Gp q;exact s.sh i d q2⟩
def cQ.grow (s:cQ K B0 H0 N H σ ρ)(x:Ext N N' H H'):cQ K B0 H0 N' H' σ ρ:=by
 have c:aH (df N (own σ ρ)) _:=dr λa o e q=>⟨x.bn a o e,q⟩;refine⟨s.bh,s.tb,s.ext.trans x,s.len,λi d q=>?_,λi d q=>?_,s.inj⟩
 .obtain⟨v,h1,h2⟩:=s.sh i d q;exact⟨v,h1,h2.mono c⟩
 .obtain⟨a,o,h2,h3,h4,h5⟩:=s.ow i d q;exact⟨a,o,h2,x.bn _ _ h3,h4,h5.mono c⟩
def cQ.growH (s:cQ K B0 H0 N H σ ρ)(x:Ext (df N (own σ ρ)) N' H H'):cQ K B0 H0 (join N N') H' σ ρ/\aH N' (df (join N N') (own σ ρ)):=by
 have M:Ext N (join N N') H H':=by
  refine⟨x.hh,dj,λa o e=>?_,λa o e=>?_⟩
  .cases q:N a with
   |some u=>
    have:join N N' a=some u:=dj _ _ q;rw[this]at e;cases e;exact x.hh _ _ (s.ext.nh _ _ q)
   |none=>rw[da q]at e;exact x.nh _ _ e
  .cases q:N a with
   |some u=>
    simp_all[join]
   |none=>
    rw[da q]at e;rcases x.new a o e with z|z
    .have:=bp _ _ z;simp_all
    .exact .inr z
 refine⟨s.grow M,λa o e=>?_⟩;rcases x.new a o e with z|z
 .obtain⟨O,U⟩:=jt z;rw[cf O];exact dj _ _ U
 .have b:=s.ext.nh.free z;have:¬own σ ρ a:=λq=>by obtain⟨vs,⟨q,_⟩,_⟩:=s.owned q;lia
  simp_all[cf,da]
noncomputable def unown (ρ:Env):Env:=ρ.map λx=>x.map λy=>(y.1,false)
def jU {i:Nat}{d:D}{b:Bool}(h:(unown ρ)[i]? = some (some (d,b))):b=false/\∃c,ρ[i]? = some (some (d,c)):=by
 unfold unown at h;simp_all<;>lia
def tP {a:Addr}:¬own σ (unown ρ) a:=λ⟨i,d,h,_⟩=>by
 obtain⟨z,_⟩:=jU h;cases z
def cQ.unown (s:cQ K B0 H0 N H σ ρ):cQ K B0 H0 N H σ (unown ρ):=by
 refine⟨s.bh,s.tb,s.ext,by unfold DL.unown;rw[vI];exact s.len,λi d q=>?_,λi d q=>?_,λi j a d e q=>?_⟩
 .obtain⟨_,c,q⟩:=jU q;obtain⟨v,h1,h2⟩:=s.rep.at' i d c q;exact⟨v,h1,h2.mono λa o e=>by rw[cf tP];exact e⟩
 .obtain⟨z,_⟩:=jU q;cases z
 .obtain⟨z,_⟩:=jU q;cases z
def bG {α:Type}{l:List α}{i j:Nat}{x y:α}(h:(l.set i x)[j]? = some y):(i=j/\x=y)\/(i≠j/\l[j]? = some y):=by
 by_cases e:i=j
 .subst e;rw[List.getElem?_set]at h;split at h
  .split at h
   .exact .inl ⟨rr,vK h⟩
   .cases h
  .contradiction
 .rw[vB e]at h;exact .inr ⟨e,h⟩
def tQ {α M:Type}{l:List α}{m:List M}{i:Nat}{x y:α}(h:(l.set i x)[i]? = some y)(e:l.length=m.length):i<m.length:=by
 obtain⟨h,_⟩:=vV h;rw[length_set]at h;lia
def p5 {i:Nat}{v:V}{x:OB}{a:Addr}(h:own (σ.set i (some v)) (ρ.set i x) a):(v=.ref a/\∃d,x=some (d,true))\/∃j,j≠i/\∃d,ρ[j]? = some (some (d,true))/\σ[j]? = some (some (V.ref a)):=by
 obtain⟨j,d,h1,h2⟩:=h;rcases bG h1 with⟨e,q⟩|⟨e,q⟩
 .rcases bG h2 with⟨e2,q2⟩|⟨e2,q2⟩
  .cases q2;exact .inl ⟨rr,d,q⟩
  .exact absurd e e2
 .rcases bG h2 with⟨e2,q2⟩|⟨e2,q2⟩
  .exact absurd e2 e
  .exact .inr ⟨j,λz=>e z.symm,d,q,q2⟩
def cQ.bind (s:cQ K B0 H0 N H σ ρ){i:Nat}{v:V}{d:D}(h:Is K (df N (own σ ρ)) v d):cQ K B0 H0 N H (σ.set i (some v)) (ρ.set i (some (d,false))):=by
 have o:∀a,own (σ.set i (some v)) (ρ.set i (some (d,false))) a->own σ ρ a:=λa q=>by
  rcases p5 q with⟨_,d',p⟩|⟨j,_,d',U,q2⟩
  .cases p
  .exact⟨j,d',U,q2⟩
 have c:aH (df N _) _:=dr λa u e q=>⟨e,λz=>q (o a z)⟩;refine⟨s.bh,s.tb,s.ext,by simp[s.len],λj e q=>?_,λj e q=>?_,λj k a e f q b h1 h2=>?_⟩
 .rcases bG q with⟨rfl,p⟩|⟨ne,p⟩
  .cases p
   have hi:=tQ q s.len;exact⟨v,by simp[hi],h.mono c⟩
  .obtain⟨w,h1,h2⟩:=s.sh j e p;exact⟨w,by simp_all,h2.mono c⟩
 .rcases bG q with⟨rfl,p⟩|⟨ne,p⟩
  .cases p
  .obtain⟨a,o,h1,h2,h3,h4⟩:=s.ow j e p;exact⟨a,o,by simp_all,h2,h3,h4.mono c⟩
 .rcases bG q with⟨rfl,p⟩|⟨ne,p⟩
  .cases p
  .rcases bG b with⟨rfl,M⟩|⟨O,M⟩
   .cases M
   .rw[vB ne]at h1;rw[vB O]at h2;exact s.inj j k a e f p M h1 h2
def cQ.bindOwn (s:cQ K B0 H0 N H σ ρ){i:Nat}{a:Addr}{ob:HO}{dd:D}(m:N a=some ob)(h0:H0 a=none)(O:∀(j:Nat)(d:D),ρ[j]? = some (some (d,true))->σ[j]? ≠ some (some (V.ref a)))
  (n:∀(j:Nat)(d:D),j≠i->ρ[j]? = some (some (d,false))->∃v,σ[j]? = some (some v)/\Is K (df N (λb=>own σ ρ b\/b=a)) v d) (h:∀(j:Nat)(d:D),j≠i->ρ[j]? = some (some (d,true))->∃(U:Addr)(o:HO),σ[j]? = some (some (V.ref U))/\N U=some o/\Bx K (df N (λb=>own σ ρ b\/b=a)) o d)
  (r:Bx K (df N (λb=>own σ ρ b\/b=a)) ob dd):cQ K B0 H0 N H (σ.set i (some (.ref a))) (ρ.set i (some (dd,true))):=by
 have o:∀b,own (σ.set i (some (V.ref a))) (ρ.set i (some (dd,true))) b->own σ ρ b\/b=a:=λb q=>by
  rcases p5 q with⟨p,_⟩|⟨j,_,d',t,q2⟩
  .cases p;exact .inr rr
  .exact .inl ⟨j,d',t,q2⟩
 have c:aH (df N _) _:=dr λb u e q=>⟨e,λz=>q (o b z)⟩;refine⟨s.bh,s.tb,s.ext,by simp[s.len],λj e q=>?_,λj e q=>?_,λj k b e f q l h1 h2=>?_⟩
 .rcases bG q with⟨rfl,p⟩|⟨ne,p⟩
  .cases p
  .obtain⟨w,h1,h2⟩:=n j e (Ne.symm ne) p;exact⟨w,by simp_all,h2.mono c⟩
 .rcases bG q with⟨rfl,p⟩|⟨ne,p⟩
  .cases p
   have hi:=tQ q s.len;exact⟨a,ob,by simp[hi],m,h0,r.mono c⟩
  .obtain⟨U,o',h1,h2,h4⟩:=h j e (Ne.symm ne) p;have h3:H0 U=none:=by
    obtain⟨A,_,k1,_,k3,_⟩:=s.ow j e p;simp_all
   exact⟨U,o',by simp_all,h2,h3,h4.mono c⟩
 .rcases bG q with⟨rfl,p⟩|⟨ne,p⟩
  .rcases bG l with⟨rfl,g⟩|⟨M,g⟩
   .rfl
   .rw[vB M]at h2;have x:V.ref a=V.ref b:=by
     rcases bG h1 with⟨_,z⟩|⟨z,_⟩
     .exact vK z
     .exact absurd rr z
    cases x
    exact absurd h2 (O k f g)
  .rcases bG l with⟨rfl,g⟩|⟨M,g⟩
   .rw[vB ne]at h1;have y:V.ref a=V.ref b:=by
     rcases bG h2 with⟨_,z⟩|⟨z,_⟩
     .exact vK z
     .exact absurd rr z
    cases y
    exact absurd h1 (O j e p)
   .rw[vB ne]at h1;rw[vB M]at h2;exact s.inj j k b e f p g h1 h2
end
set_option genInjectivity true in
inductive Res where
 |nx (ρ:Env)|rt (d:D) (b:Bool)|bk (ρ:Env)|ct (ρ:Env)
abbrev FS:=Env->Option Res
def Us (K:Frag)(B0 H0:Hp)(E:Ends):Res->Prop
 |.nx ρ=>∀σ H,vz K B0 H0 H σ ρ->E.nx σ H
 |.rt d b=>∀v H N,Ext B0 N H0 H->Is K N v d->(b=true->SQ K H0 N v d)->E.rt v H
 |.bk ρ=>∀σ H,vz K B0 H0 H σ ρ->E.bk σ H
 |.ct ρ=>∀σ H,vz K B0 H0 H σ ρ->E.ct σ H
def mR (K:Frag)(g:FS):TS:=λE σ H=>∃(B0 H0:Hp)(ρ:Env)(r:Res),vz K B0 H0 H σ ρ/\g ρ=some r/\Us K B0 H0 E r
section
variable {K:Frag}{B0 H0 N H H':Hp}{σ:St}{ρ:Env}{E:Ends}
def cQ.writeB (s:cQ K B0 H0 N H σ ρ)(hi:ρ[i]? = some (some (d,true)))(M:σ[i]? = some (some (V.ref a)))(h:Bx K (df N (own σ ρ)) ob dd):
  cQ K B0 H0 (upd N a ob) (upd H a ob) σ (ρ.set i (some (dd,true))):=by
 have oa:own σ ρ a:=⟨i,d,hi,M⟩;obtain⟨ws,hw,h0⟩:=s.owned oa;have l:B0 a=none:=s.bh.free h0;have o:∀b,own σ (ρ.set i (some (dd,true))) b↔own σ ρ b:=λb=>by
  constructor
  .rintro⟨j,e,O,q2⟩;rcases bG O with⟨rfl,p⟩|⟨_,p⟩
   .exact⟨i,d,hi,q2⟩
   .exact⟨j,e,p,q2⟩
  .rintro⟨j,e,O,q2⟩;by_cases z:i=j
   .subst z;exact⟨i,dd,by rw[getElem?_set_self (vV hi).1],q2⟩
   .exact⟨j,e,by simp_all,q2⟩
 have c:aH (df N (own σ ρ)) (df (upd N a ob) (own σ (ρ.set i (some (dd,true))))):=dr λb u e q=>by
  have ne:b≠a:=λz=>q (z ▸ oa);exact⟨by rw[a5 ne];exact e,λz=>q ((o b).mp z)⟩
 refine⟨s.bh,s.tb,⟨λb u e=>?_,λb u e=>?_,λb u e=>?_,λb u e=>?_⟩,by rw[length_set];exact s.len,λj e q=>?_,λj e q=>?_,λj k b e f q m h1 h2=>?_⟩
 .rw[a5 (λz=>by subst z;rw[h0]at e;cases e)];exact s.ext.hh _ _ e
 .rw[a5 (λz=>by subst z;rw[l]at e;cases e)];exact s.ext.bn _ _ e
 .by_cases z:b=a
  .simp_all[au]
  .rw[a5 z]at e |-;exact s.ext.nh _ _ e
 .by_cases z:b=a
  .subst z;exact .inr h0
  .rw[a5 z]at e;exact s.ext.new _ _ e
 .rcases bG q with⟨rfl,p⟩|⟨ne,p⟩
  .cases p
  .obtain⟨v,h1,h2⟩:=s.sh j e p;exact⟨v,h1,h2.mono c⟩
 .rcases bG q with⟨rfl,p⟩|⟨ne,p⟩
  .cases p
   exact⟨a,ob,M,au,h0,h.mono c⟩
  .obtain⟨g,o',h1,h2,h3,h4⟩:=s.ow j e p;have n:g≠a:=λz=>by subst z;exact ne (s.inj i j _ d e hi p M h1)
   exact⟨g,o',h1,by rw[a5 n];exact h2,h3,h4.mono c⟩
 .have get:∀ {j:Nat}{e:D},(ρ.set i (some (dd,true)))[j]? = some (some (e,true))->∃U,ρ[j]? = some (some (U,true)):=λ{j e} q=>by
   rcases bG q with⟨rfl,p⟩|⟨ne,p⟩
   .exact⟨d,hi⟩
   .exact⟨e,p⟩
  obtain⟨U,O⟩:=get q;obtain⟨r,q2⟩:=get m;exact s.inj j k b U r O q2 h1 h2
def cQ.write (s:cQ K B0 H0 N H σ ρ)(hi:ρ[i]? = some (some (d,true)))(M:σ[i]? = some (some (V.ref a)))(h:IsL K (df N (own σ ρ)) vs ds):
  cQ K B0 H0 (upd N a (.lst vs)) (upd H a (.lst vs)) σ (ρ.set i (some (.lst ds,true))):=s.writeB hi M (.lst h)
def cQ.tups (s:cQ K B0 H0 N H σ ρ):∀a vs,gF K N a vs->gF K (df N (own σ ρ)) a vs:=λa vs h=>by
 have key:∀u,N a=some u->¬boxed u->df N (own σ ρ) a=some u:=λu e hu=>by
  rw[cf λz=>?_];exact e;obtain⟨ws,⟨q,M⟩,_⟩:=s.owned z;simp_all
 rcases h with (h|⟨o,h⟩)|h
 .exact .inl (.inl (key _ h (λq=>q)))
 .exact .inl (.inr ⟨o,key _ h (λq=>q)⟩)
 .exact .inr h
def cQ.flat (s:cQ K B0 H0 N H σ ρ)(h:Is K N v d)(n:aO d=true):Is K (df N (own σ ρ)) v d:=h.keepT s.tups n
def cQ.flats (s:cQ K B0 H0 N H σ ρ)(h:IsL K N v d)(n:aZ d=true):IsL K (df N (own σ ρ)) v d:=h.keepT s.tups n
def cQ.rebase (s:cQ K B0 H0 N H σ ρ):cQ K (df N (own σ ρ)) (df H (own σ ρ)) N H σ ρ:=
 ⟨dr λa o e q=>⟨s.ext.nh _ _ e,q⟩,s.tbC,⟨bp,bp,s.ext.nh,λa o e=>by
  grind[A5,cf]⟩,s.len,s.sh,λi d q=>by
   obtain⟨a,o,h1,h2,_,h4⟩:=s.ow i d q;exact⟨a,o,h1,h2,A5 ⟨i,d,q,h1⟩,h4⟩,s.inj⟩
def cQ.unbase (s:cQ K B0 H0 N H σ ρ)(t:cQ K (df N (own σ ρ)) (df H (own σ ρ)) N' H' O ρ'):cQ K B0 H0 N' H' O ρ':=by
 have h0:aH H0 (df H (own σ ρ)):=λa o e=>by
  rw[cf λz=>?_];exact s.ext.hh _ _ e;obtain⟨_,_,q⟩:=s.owned z;lia
 have M:aH B0 (df N (own σ ρ)):=λa o e=>by
  rw[cf λz=>?_];exact s.ext.bn _ _ e;obtain⟨_,_,q⟩:=s.owned z;rw[s.bh _ _ e]at q;cases q
 refine⟨s.bh,s.tb,⟨h0.trans t.ext.hh,M.trans t.ext.bn,t.ext.nh,λa o e=>?_⟩,t.len,t.sh,λi d q=>?_,t.inj⟩
 .rcases t.ext.new a o e with z|z
  .exact s.ext.new a o (bp _ _ z)
  .exact .inr (h0.free z)
 .obtain⟨a,o,h1,h2,h3,h4⟩:=t.ow i d q;exact⟨a,o,h1,h2,h0.free h3,h4⟩
def cQ.based (t:cQ K B0 H0 N H σ ρ):aH B0 (df N (own σ ρ)):=λa o e=>by
 rw[cf λz=>?_];exact t.ext.bn _ _ e;obtain⟨_,_,q⟩:=t.owned z;rw[t.bh _ _ e]at q;cases q
@[simp] noncomputable def cx (g h:FS):FS:=λρ=>match g ρ with|some (.nx ρ')=>h ρ'|r=>r
@[simp] def o4:FS:=λρ=>some (.nx ρ)
@[simp] noncomputable def A6 (c:FT)(g h:FS):FS:=λρ=>match c ρ with|some true=>g ρ|some false=>h ρ|none=>none
@[simp] noncomputable def xP (f:FE):FS:=λρ=>(f ρ).map λx=>.rt x.1 x.2
@[simp] noncomputable def OF:D->Bool
 |.dk _ _=>true
 |.dt _ _=>true
 |_=>false
@[simp] def o5 (i:Nat):FS:=λρ=>match ρ[i]? with|some (some (d,b))=>some (.rt d (b && !OF d))|_=>none
@[simp] def xQ:D->Bool
 |.lst ds=>aZ ds
 |_=>false
@[simp] def setE (ρ:Env)(i:Nat)(d:D)(b:Bool):Env:=
 if aO d=true then ρ.set i (some (d,false))else if b=true/\xQ d=true then ρ.set i (some (d,true))else (unown ρ).set i (some (d,false))
@[simp] def dO (i:Nat)(f:FE):FS:=λρ=>(f ρ).map λx=>.nx (setE ρ i x.1 x.2)
@[simp] def BV (i:Nat)(f:FE):FS:=λρ=>(f (jm ρ)).map λx=>.nx (ρ.set i (some (x.1,false)))
@[simp] def v0 (i:Nat)(f:FE):FS:=λρ=>match ρ[i]? with
 |some (some (.lst ds,true))=>(f ρ).bind λx=>if aO x.1=true/\ds.length<sizeLine then some (.nx (ρ.set i (some (.lst (ds++[x.1]),true))))else none
 |_=>none
def Mb (q:mR K (cx g h) E σ H):T8 (mR K g) (mR K h) E σ H:=by
 obtain⟨B0,H0,ρ,r,s,e,p⟩:=q;unfold cx at e;cases M:g ρ with
 |none=>rw[M]at e;cases e
 |some O=>
  rw[M]at e;cases O with
  |nx ρ'=>exact⟨B0,H0,ρ,.nx ρ',s,M,λU H' s'=>⟨B0,H0,ρ',r,s',e,p⟩⟩
  |rt d b=>cases e;exact⟨B0,H0,ρ,_,s,M,p⟩
  |bk ρ'=>cases e;exact⟨B0,H0,ρ,_,s,M,p⟩
  |ct ρ'=>cases e;exact⟨B0,H0,ρ,_,s,M,p⟩
def Gr (q:mR K o4 E σ H):O6 E σ H:=by
 obtain⟨B0,H0,ρ,r,s,e,p⟩:=q;cases e
 exact p σ H s
def vz.grown (s:cQ K B0 H0 N H σ ρ)(h:aH H H'):vz K B0 H0 H' σ ρ:=⟨N,s.grow (.grow s.ext.nh h)⟩
def Qr (q:mR K (A6 c g h) E σ H):TC (BU K c) (mR K g) (mR K h) E σ H:=by
 obtain⟨B0,H0,ρ,r,⟨N,s⟩,e,p⟩:=q;unfold A6 at e;cases M:c ρ with
 |none=>rw[M]at e;cases e
 |some b=>
  rw[M]at e;refine⟨N,ρ,b,s.ext.nh,s.rep,M,λO h1=>?_⟩;cases b with
  |true=>rw[if_pos rr];exact⟨B0,H0,ρ,r,.grown s h1,e,p⟩
  |false=>rw[if_neg O9];exact⟨B0,H0,ρ,r,.grown s h1,e,p⟩
def Mc (q:mR K (xP f) E σ H):PH (tD K f) E σ H:=by
 obtain⟨B0,H0,ρ,r,⟨N,s⟩,e,p⟩:=q;obtain⟨x,ex,e⟩:=oY e;subst e;exact⟨N,ρ,x.1,x.2,s.ext.nh,s.rep,ex,λv M N1 O i1 f1=>p v M N1 (s.ext.trans O) i1 λb=>(f1 b).back s.ext.hh⟩
def Gs (q:mR K (o5 i) E σ H):PH (FK i) E σ H:=by
 obtain⟨B0,H0,ρ,r,⟨N,s⟩,e,p⟩:=q;unfold o5 at e;split at e
 .rename_i d b ei;cases e
  cases b with
  |false=>
   obtain⟨v,h1,h2⟩:=s.sh i d ei;exact⟨v,h1,p v H N s.ext (h2.mono bp) H9⟩
  |true=>
   obtain⟨a,o,h1,h2,h3,h4⟩:=s.ow i d ei;cases h4 with
   |lst h4=>exact⟨_,h1,p _ H N s.ext (.lst (fD.of h2) (h4.mono bp)) λ_=>⟨a,_,_,rr,rr,h3,h2,h4.mono bp⟩⟩
   |dk hl h4=>exact⟨_,h1,p _ H N s.ext (.dk h2 hl (h4.mono bp)) H9⟩
   |dt hl h4=>exact⟨_,h1,p _ H N s.ext (.dt h2 hl (h4.mono bp)) H9⟩
 simp_all
def cQ.setE (s:cQ K B0 H0 N H σ ρ)(x:Ext N N1 H H1)(h:Is K N1 v d)(f:b=true->SQ K H N1 v d):cQ K B0 H0 N1 H1 (σ.set i (some v)) (setE ρ i d b):=by
 have s1:=s.grow x;unfold DL.setE;by_cases hn:aO d=true
 .rw[if_pos hn];exact s1.bind (s1.flat h hn)
 .rw[if_neg hn];by_cases hb:b=true/\xQ d=true
  .rw[if_pos hb];obtain⟨es,rfl⟩:∃es,d=.lst es:=by cases d<;>first|exact⟨_,rr⟩|(simp at hb)
   obtain⟨a,vs,ds,rfl,z,ha,M,hs⟩:=f hb.1;cases z
   have O:N a=none:=s.ext.nh.free ha;have U:¬own σ ρ a:=λz=>by obtain⟨ws,⟨q,_⟩,_⟩:=s.owned z;lia
   have c:aH (df N (own σ ρ)) (df N1 (λb=>own σ ρ b\/b=a)):=dr λb u e q=>⟨x.bn _ _ e,λz=>z.elim q λz=>by subst z;rw[O]at e;cases e⟩;refine s1.bindOwn M (s.ext.hh.free ha) (λj e q z=>U ⟨j,e,q,z⟩) (λj e _ q=>?_) (λj e _ q=>?_) (.lst (hs.keepT (λt k st=>?_) hb.2))
   .obtain⟨w,h1,h2⟩:=s.sh j e q;exact⟨w,h1,h2.mono c⟩
   .obtain⟨g,o',h1,h2,_,h4⟩:=s.ow j e q;exact⟨g,o',h1,x.bn _ _ h2,h4.mono c⟩
   .have key:∀u,N1 t=some u->¬boxed u->df N1 (λb=>own σ ρ b\/b=a) t=some u:=λu e hu=>by
     rw[cf λz=>?_];exact e;rcases z with z|z
     .obtain⟨ws,⟨q,l⟩,_⟩:=s1.owned z;simp_all
     .subst z;rw[e]at M;cases M;exact hu trivial
    rcases st with (st|⟨o,st⟩)|st
    .exact .inl (.inl (key _ st (λq=>q)))
    .exact .inl (.inr ⟨o,key _ st (λq=>q)⟩)
    .exact .inr st
  .rw[if_neg hb];exact s1.unown.bind (h.mono λa o e=>by rw[cf tP];exact e)
def BW (q:mR K (dO i f) E σ H):DN (tD K f) (gY i) E σ H:=by
 obtain⟨B0,H0,ρ,r,⟨N,s⟩,e,p⟩:=q;obtain⟨x,ex,e⟩:=oY e;subst e;exact⟨N,ρ,x.1,x.2,s.ext.nh,s.rep,ex,λv M N1 O i1 f1=>p _ M ⟨N1,s.setE O i1 f1⟩⟩
def Gu (q:mR K (BV i f) E σ H):DN (tD K f) (gY i) E σ H:=by
 obtain⟨B0,H0,ρ,r,⟨N,s⟩,e,p⟩:=q;obtain⟨x,ex,e⟩:=oY e;subst e;refine⟨df N (own σ ρ),jm ρ,x.1,x.2,bp.trans s.ext.nh,s.repH,ex,λv M N1 O i1 f1=>?_⟩;obtain⟨s1,c⟩:=s.growH O;exact p _ M ⟨_,s1.bind (i1.mono c)⟩
def Md (q:mR K (v0 i f) E σ H):∃(a:Addr)(us:LV),σ[i]? = some (some (V.ref a))/\H a=some (.lst us)/\OA (tD K f) Ua σ H λxs H2=>BR (.ref a) xs H2 λ_ U=>E.nx σ U:=by
 obtain⟨B0,H0,ρ,r,⟨N,s⟩,e,p⟩:=q;unfold v0 at e;split at e
 .rename_i ds ei;obtain⟨x,ex,e⟩:=oX e;split at e
  .rename_i hx;cases e
   obtain⟨a,vs,M,z,h1,h2,h3,h4⟩:=s.owL i _ ei;cases z
   refine⟨a,vs,h1,s.ext.nh _ _ h2,N,ρ,x.1,x.2,s.ext.nh,s.rep,ex,λv b N1 O i1 f1=>⟨a,vs,v,rr,rr,O.hh _ _ (s.ext.nh _ _ h2),by rw[h4.length];exact hx.2,?_⟩⟩;have s1:=s.grow O;obtain⟨c,d,M,z,k1,k2,_,k4⟩:=s1.owL i _ ei;cases z
   rw[h1]at k1;cases k1;rw[O.bn _ _ h2]at k2;cases k2;exact p σ _ ⟨_,s1.write ei h1 (k4.append (.cons (s1.flat i1 hx.1) .nil))⟩
  simp_all
 simp_all
end
noncomputable def fT (c:FT)(g:FS):Nat->Env->Option Res
 |0,_=>none
 |n+1,ρ=>match c ρ with
  |some true=>match g ρ with
   |some (.nx ρ')=>fT c g n ρ'
   |some (.ct ρ')=>fT c g n ρ'
   |some (.bk ρ')=>some (.nx ρ')
   |r=>r
  |some false=>some (.nx ρ)
  |none=>none
def Ee (q:mR K (fT c g n) E σ H):FP (BU K c) (mR K g) E σ H:=by
 obtain⟨B0,H0,ρ,r,s,e,p⟩:=q;refine⟨λm σ H=>∃ρ,vz K B0 H0 H σ ρ/\fT c g m ρ=some r,⟨n,ρ,s,e⟩,?_⟩;rintro m σ H ⟨ρ,⟨N,s⟩,e⟩;cases m with
 |zero=>cases e
 |succ m=>
  unfold fT at e;cases O:c ρ with
  |none=>rw[O]at e;cases e
  |some b=>
   rw[O]at e;refine⟨N,ρ,b,s.ext.nh,s.rep,O,λf h1=>?_⟩;cases b with
   |false=>rw[if_neg O9];cases e;exact p σ f (.grown s h1)
   |true=>
    rw[if_pos rr];refine⟨λσ H=>∃ρ,vz K B0 H0 H σ ρ/\fT c g m ρ=some r,λM H' w=>⟨m,Nat.lt_succ_self m,w⟩,?_⟩;cases U:g ρ with
    |none=>rw[U]at e;cases e
    |some a=>
     rw[U]at e;refine⟨B0,H0,ρ,a,.grown s h1,U,?_⟩;cases a with
     |nx ρ'=>exact λM H' s'=>⟨ρ',s',e⟩
     |ct ρ'=>exact λM H' s'=>⟨ρ',s',e⟩
     |bk ρ'=>cases e;exact λM H' s'=>p M H' s'
     |rt d b=>cases e;exact p
def lU (K:Frag)(J:It)(B:Hp)(ds:LD):Prop:=∀(i:Nat)(H:Hp),aH B H ->
 (∀d,ds[i]? = some d->J.go i H/\∀x H',J.yld i H x H'->∃N,Ext B N H H'/\Is K N x d)/\(ds.length<=i->J.stop i H)
def ZH (K:Frag)(f:FA):TI:=λσ H R=>∃(B:Hp)(ρ:Env)(ds:LD),aH B H/\ej K B σ ρ/\f ρ=some ds/\∀(J:It)(H' N:Hp),Ext B N H H'->lU K J N ds->R J H'
abbrev FG:=D->Env->Option Env
def Lh (K:Frag)(tg:FG)(g:TG):Prop:=∀(B0 H0 N H:Hp)(σ:St)(ρ ρ':Env)(v:V)(d:D)(Q:St->Hp->Prop),cQ K B0 H0 N H σ ρ->Is K (df N (own σ ρ)) v d->tg d ρ=some ρ' ->
 (∀M H',vz K B0 H0 H' M ρ'->Q M H')->g v σ H Q
@[simp] noncomputable def f7 (i:Nat):FG:=λd ρ=>some (ρ.set i (some (d,false)))
def Gv:Lh K (f7 i) (gY i):=by
 intro B0 H0 N H σ ρ ρ' v d Q s h e k;cases e
 exact k _ H ⟨N,s.bind h⟩
noncomputable def f8 (tg:FG)(g:FS):LD->Env->Option Res
 |[],ρ=>some (.nx ρ)
 |d::ds,ρ=>(tg d ρ).bind λM=>match g M with
  |some (.nx ρ')=>f8 tg g ds ρ'
  |some (.ct ρ')=>f8 tg g ds ρ'
  |some (.bk ρ')=>some (.nx ρ')
  |r=>r
@[simp] def Gw (tg:FG)(g:FS)(ρ:Env):f8 tg g [] ρ=some (.nx ρ):=by rw[f8]
@[simp] theorem tR (tg:FG)(g:FS)(d:D)(ds:LD)(ρ:Env):f8 tg g (d::ds) ρ=(tg d ρ).bind λM=>match g M with
  |some (.nx ρ')=>f8 tg g ds ρ'
  |some (.ct ρ')=>f8 tg g ds ρ'
  |some (.bk ρ')=>some (.nx ρ')
  |r=>r:=by rw[f8]
@[simp] def xR (f:FA)(tg:FG)(g:FS):FS:=λρ=>(f (jm ρ)).bind λds=>f8 tg g ds ρ
def xS (w:Lh K tg t)(s1:cQ K B0 H0 N H1 σ ρ)(c:aH N1 (df N (own σ ρ)))(J1:lU K J N1 ds)(e:f8 tg g ds ρ=some r)(p:Us K B0 H0 E r):
  ∃W:Nat->Nat->St->Hp->Prop,(∃m,W 0 m σ H1)/\∀i m σ H,W i m σ H->(J.stop i H/\E.nx σ H)\/(J.go i H/\∃N:St->Hp->Prop,(∀M H',N M H'->∃l,l<m/\W (i+1) l M H')/\∀x H',J.yld i H x H'->t x σ H' λf H2=>mR K g { E with nx:=N,ct:=N,bk:=E.nx } f H2):=by
 refine⟨λi m σ H=>∃(N:Hp)(ρ:Env),cQ K B0 H0 N H σ ρ/\aH N1 (df N (own σ ρ))/\m=ds.length - i/\i<=ds.length/\f8 tg g (ds.drop i) ρ=some r,⟨ds.length,_,ρ,s1,c,rr,uN _,e⟩,?_⟩;clear e s1 c;rintro i m σ H ⟨N,ρ,s,c,rfl,hi,e⟩;have hs:aH N1 H:=c.trans (bp.trans s.ext.nh);obtain⟨A,B⟩:=J1 i H hs;by_cases O:i<ds.length
 .obtain⟨go,C⟩:=A ds[i] (by simp[O]);rw[List.drop_eq_getElem_cons O]at e;obtain⟨h,D,e⟩:=oX e;refine .inr ⟨go,λM H'=>∃(N:Hp)(ρ:Env),cQ K B0 H0 N H' M ρ/\aH N1 (df N (own M ρ))/\f8 tg g (ds.drop (i+1)) ρ=some r,λM H' ⟨N',ρ',s',F,G⟩=>⟨_,N9,N',ρ',s',F,rr,O,G⟩,λx H' y=>?_⟩;obtain⟨N2,U,i2⟩:=C x H' y;have I:Ext (df N (own σ ρ)) (join (df N (own σ ρ)) N2) H H':=by
   refine⟨U.hh,dj,λa o e=>?_,λa o e=>?_⟩
   .cases q:df N (own σ ρ) a with
    |some u=>rw[dj _ _ q]at e;cases e;exact U.hh _ _ (s.ext.nh _ _ (bp _ _ q))
    |none=>rw[da q]at e;exact U.nh _ _ e
   .cases q:df N (own σ ρ) a with
    |some u=>rw[dj _ _ q]at e;simp_all
    |none=>
     rw[da q]at e;rcases U.new a o e with z|z
     .rw[c _ _ z]at q;cases q
     .exact .inr z
  obtain⟨s2,c2⟩:=s.growH I;have c3:aH N2 (join (df N (own σ ρ)) N2):=λa o e=>by
   rcases U.new a o e with z|z
   .exact dj _ _ (c _ _ z)
   .rw[da ((bp.trans s.ext.nh).free z)];exact e
  have L:=i2.mono (c3.trans c2);have P:aH N1 (df (join N (join (df N (own σ ρ)) N2)) (own σ ρ)):=(U.bn.trans c3).trans c2;refine w _ _ _ _ _ _ _ _ _ _ s2.rebase L D λf H2 ⟨Q,R⟩=>?_;cases k:g h with
  |none=>rw[k]at e;cases e
  |some n=>
   rw[k]at e;refine⟨_,_,h,n,⟨Q,R⟩,k,?_⟩;have back:∀ {M:St}{H':Hp}{ρ':Env}{N':Hp},cQ K _ _ N' H' M ρ'->cQ K B0 H0 N' H' M ρ'/\aH N1 (df N' (own M ρ')):=λt=>⟨s2.unbase t,P.trans t.based⟩;cases n with
   |nx ρ'=>exact λM H' ⟨N',t⟩=>⟨N',ρ',(back t).1,(back t).2,e⟩
   |ct ρ'=>exact λM H' ⟨N',t⟩=>⟨N',ρ',(back t).1,(back t).2,e⟩
   |bk ρ'=>cases e;exact λM H' ⟨N',t⟩=>p M H' ⟨N',(back t).1⟩
   |rt d b=>
    cases e
    intro v H' N' j S T;have y:=s2.rebase.ext;have h0:aH H0 (df H' (λ_=>False)):=λa o e=>by rw[cf (λz=>z)];exact j.hh _ _ (by
     rw[cf λz=>?_];exact s2.ext.hh _ _ e;obtain⟨_,_,q⟩:=s2.owned z;lia)
    have V:aH H0 (df H' (λ_=>False)):=h0;have X:aH H0 (df H' (λ_=>False)):=h0;have hc:∀a,df H' (λ_=>False) a=H' a:=λa=>cf (λz=>z);have hb:aH H0 (df _ (own σ ρ)):=λa o e=>by
     rw[cf λz=>?_];exact s2.ext.hh _ _ e;obtain⟨_,_,q⟩:=s2.owned z;lia
    have bb:aH B0 (df _ (own σ ρ)):=λa o e=>by
     rw[cf λz=>?_];exact s2.ext.bn _ _ e;obtain⟨_,_,q⟩:=s2.owned z;rw[s2.bh _ _ e]at q;cases q
    refine p v H' N' ⟨hb.trans j.hh,bb.trans j.bn,j.nh,λa o e=>?_⟩ S λz=>(T z).back hb;rcases j.new a o e with z|z
    .exact s2.ext.new a o (bp _ _ z)
    .exact .inr (hb.free z)
 .have ei:i=ds.length:=N9
  subst ei;rw[List.drop_eq_nil_of_le (vT _)]at e;cases e
  exact .inl ⟨B (vT _),p σ H ⟨N,s⟩⟩
def Me (M:Lh K tg t)(q:mR K (xR f tg g) E σ H):PP (ZH K f) t (mR K g) E σ H:=by
 obtain⟨B0,H0,ρ,r,⟨N,s⟩,e,p⟩:=q;obtain⟨ds,O,e⟩:=oX e;refine⟨df N (own σ ρ),jm ρ,ds,bp.trans s.ext.nh,s.repH,O,λJ a N1 U J1=>?_⟩;obtain⟨s1,c⟩:=s.growH U;exact xS M s1 c J1 e p
def Ut (K:Frag)(f:FA):TI:=λσ H R=>∃(B:Hp)(ρ:Env)(ds:LD),aH B H/\ej K B σ ρ/\f ρ=some ds/\∀(J:It)(H' N:Hp),Ext B N H H'->(∀M,lU K J M ds)->R J H'
@[simp] def tS (f:FA)(tg:FG)(g:FS):FS:=λρ=>(f ρ).bind λds=>f8 tg g ds ρ
def Gx (M:Lh K tg t)(q:mR K (tS f tg g) E σ H):PP (Ut K f) t (mR K g) E σ H:=by
 obtain⟨B0,H0,ρ,r,⟨N,s⟩,e,p⟩:=q;obtain⟨ds,O,e⟩:=oX e;refine⟨N,ρ,ds,s.ext.nh,s.rep,O,λJ a N1 U J1=>?_⟩;exact xS M (s.grow U) (aH.refl _) (J1 _) e p
end DL
namespace DL
open PySem PySem.Spec PyProof.Rows L2
abbrev JE (X:Cx)(e:Expr)(f:FE):Prop:=PE X e (tD X.K f)
abbrev JT (X:Cx)(e:Expr)(f:FT):Prop:=PT X e (BU X.K f)
abbrev JW (X:Cx)(e:Expr)(f:FT):Prop:=PW X e (BU X.K f)
abbrev JA (X:Cx)(es:QD)(f:FA):Prop:=PA X es (SR X.K f)
abbrev JS (X:Cx)(st:Stmt)(g:FS):Prop:=PS X st (mR X.K g)
abbrev xB (X:Cx)(st:List Stmt)(g:FS):Prop:=tI X st (mR X.K g)
abbrev JI (X:Cx)(tg M:Expr)(f:FA):Prop:=PI X tg M (ZH X.K f)
def Qs (M:Model)(A:Around)(U:QD)(a:Expr)(env:PySem.Env)(b:Value)(E:QV)(P:Shared->Prop):Shared->Prop:=
 wpAny M A (forIn U true λc r=>if r=true then do let ok <-isTrue c env (eval c env);pure (ForInStep.yield ok)else pure (ForInStep.yield r))
  (λok O=>if ok=true then wpAny M A (eval a env) (λx=>wpAny M A (call (.builtin "list.append") [b,x]) (λ_=>P) E) E O else P O) E
def wa {E:QV}(i:∀x s,¬E x s)(I:Nat->Shared->Prop)
  (j:∀n s,I n s->wpAny (model prog w) A (pyNext it) (λr M=>match r with
   |none=>R (.ok .next) M
   |some v=>wpAny (model prog w) A (letOwnedTupleGo KW it v) (λ_=>wpAny (model prog w) A (assign KW env v) (λ_=>Qs (model prog w) A ve xz env KU E λs=>∃m,m<n/\I m s) E) E M) E s)
  (n:Nat) (h:I n s):codeAny (model prog w) A (.compLoop (.ListComp xz [⟨KW,dQ,ve,0⟩] scope pos) 0 it KU env) R s:=by
 refine codeAny_loop rr I (λn s k=>?_) n h;refine wpAny_noted (wpAny_mono (E:=E) ?_ (λ_ _ q=>q) λ_ _ z=>(i _ _ z).elim);rw[compTurn_list];refine wX (wpAny_standAt (wX (bI (j n s k) λr M O=>?_)));cases r with
 |none=>exact wY O
 |some v=>
  refine wX (bI O λ_ M O=>wX (bI O λ_ d a=>wX (bI a λok e U=>?_)));cases ok with
  |false=>exact wY ⟨rr,U⟩
  |true=>exact wX (wX (bI U λx f b=>wX (bI b λ_ g c=>wY (wY ⟨rr,c⟩))))
theorem Ext.upd (x:Ext B N H H')(h:H a=none)(M:N a=none):Ext B N H (upd H' a o):=
 ⟨λb u e=>by rw[a5 (λz=>by subst z;rw[h]at e;cases e)];exact x.hh _ _ e,x.bn,λb u e=>by rw[a5 (λz=>by subst z;rw[M]at e;cases e)];exact x.nh _ _ e,x.new⟩
noncomputable abbrev gN (X:Cx)(N':LS)(scope:Scope)(cl:List (Str×Addr))(C:Addr)(M:Shared)(O:Hp)(fp:List Addr):Cx:=
 { X with N:=N',s₀:=M,H₀:=O,env:=compEnvC scope cl C X.env,outer:=X.stack,stack:=X.stack,ex:=fp,fn:=λ_=>false,pn:=[],xe:=λ_ _=>False }
inductive lM (X:Cx)(N':List Str)(scope:Scope)(cl:List (Str×Addr)):Nat->List Nat->Prop where
 |nil {j:Nat}(h:N'.length=j):lM X N' scope cl j []
 |cons {j i:Nat}{r:List Nat}{x:Str}(h1:N'[j]? = some x) (h2:X.N[i]? = some x) (h3:X.env.kindOf x=some .cell\/X.env.kindOf x=some .free)
   (h4:(relabel scope X.env).names.lookup x=some .cell\/(relabel scope X.env).names.lookup x=some .free) (h5:cl.lookup x=X.env.cells.lookup x) (t:lM X N' scope cl (j+1) r):lM X N' scope cl j (i::r)
theorem lM.len:∀ {j:Nat}{cap:LN},lM X N' scope cl j cap->N'.length=j+cap.length
 |_,_,.nil h=>by rw[h];rfl
 |j,i::r,.cons _ _ _ _ _ t=>by rw[t.len,vE];lia
theorem lM.get:∀ {j:Nat}{cap:LN}{k i:Nat},lM X N' scope cl j cap->cap[k]? = some i->∃x,N'[j+k]? = some x/\X.N[i]? = some x/\(X.env.kindOf x=some .cell\/X.env.kindOf x=some .free) /\
  ((relabel scope X.env).names.lookup x=some .cell\/(relabel scope X.env).names.lookup x=some .free)/\cl.lookup x=X.env.cells.lookup x
 |_,_,_,_,.nil _,e=>by simp at e
 |j,_,0,_,.cons h1 h2 h3 h4 h5 _,e=>by simp at e;subst e;exact⟨_,h1,h2,h3,h4,h5⟩
 |j,_,k+1,i,.cons _ _ _ _ _ t,e=>by
  obtain⟨x,q,r⟩:=t.get (by simpa using e);exact⟨x,N9,r⟩
structure CompSc (X:Cx)(scope:Scope)(cl:List (Str×Addr)):Prop where
 clos:closureFor scope X.env=pure cl
 nocell:∀y∈scope.names,y.2≠.cell
 kind:scope.kind=.function
 names:∀y∈scope.names,y.2=.local->scope.names.lookup y.1=some .local
 sub:∀x c,cl.lookup x=some c->X.env.cells.lookup x=some c
 has:∀x,((relabel scope X.env).names.lookup x=some .cell\/(relabel scope X.env).names.lookup x=some .free)->∃c,cl.lookup x=some c
noncomputable def dD:List (Str×NameKind)->List (Str×Addr)->List (Str×Addr)->List (Str×Addr)
 |[],_,cs=>cs
 | (n,k)::r,cells,cs=>dD r cells (if k == .free then (match cells.lookup n with|some c=>(n,c)::cs|none=>cs)else cs)
def tT:∀(names:List (Str×NameKind))(cs:List (Str×Addr)),(∀y∈names,y.2=.free->(env.cells.lookup y.1).isSome=true) ->
    (do let mut cs:=cs
        for (name,kind)in names do
          if kind == .free then cs:=(name,<-cellOf env name)::cs
        return cs:Sem (List (Str×Addr)))=pure (dD names env.cells cs):=by
  intro names;induction names with
  |nil=>intro cs _;rfl
  |cons y r M=>
    intro cs h;grind[dD,cellOf]
theorem lV:∀(names:List (Str×NameKind))(cs:List (Str×Addr)),(∀y d,cs.lookup y=some d->cells.lookup y=some d)->(dD names cells cs).lookup x=some c->cells.lookup x=some c
 |[],cs,h,e=>h x c e
 | (n,k)::r,cs,h,e=>by
  refine lV r _ (λy d q=>?_) e;split at q
  .split at q
   .rename_i O M;rw[lookup_cons]at q;split at q
    .rename_i hy;cases q
     rw[eq_of_beq hy];exact M
    .exact h y d q
   .exact h y d q
  .exact h y d q
theorem tU:∀(names:List (Str×NameKind))(cs:List (Str×Addr)),(cs.lookup x).isSome=true->((dD names cells cs).lookup x).isSome=true
 |[],cs,h=>h
 | (n,k)::r,cs,h=>by
  refine tU r _ ?_;split
  .split
   .rw[lookup_cons];split
    .rfl
    .exact h
   .exact h
  .exact h
theorem lW:∀(names:List (Str×NameKind))(cs:List (Str×Addr)),(x,NameKind.free)∈names->(cells.lookup x).isSome=true->((dD names cells cs).lookup x).isSome=true
 | (n,k)::r,cs,hm,hc=>by
  rcases vP hm with e|e
  .cases e
   refine tU r _ ?_;grind
  .exact lW r _ e hc
theorem fU {α:Type}{x:Str}{k:α}:∀ {l:List (Str×α)},l.lookup x=some k->(x,k)∈l
 | (n,j)::r,h=>by
  rw[lookup_cons]at h;split at h
  .simp_all
  .exact mZ _ (fU h)
def Qt {X:Cx}{scope:Scope}(h1:∀y∈scope.names,y.2≠.cell)(h2:scope.kind=.function)(h3:∀y∈scope.names,y.2=.local->scope.names.lookup y.1=some .local)(M:(scope.names.all λy=>!(y.2 == NameKind.free) || (X.env.cells.lookup y.1).isSome)=true):
  CompSc X scope (dD scope.names X.env.cells []):=by
 have h4:∀y∈scope.names,y.2=.free->(X.env.cells.lookup y.1).isSome=true:=λy hy e=>by
  grind
 have frees:∀x,((relabel scope X.env).names.lookup x=some .cell\/(relabel scope X.env).names.lookup x=some .free)->(x,NameKind.free)∈scope.names:=λx h=>by
  have:∃k,(x,k)∈(relabel scope X.env).names/\(k=.cell\/k=.free):=by
   grind[fU]
  grind[relabel]
 exact⟨tT _ [] h4,h1,h2,h3,λx c e=>lV _ [] (λy d q=>by cases q) e,λx h=>by
  have:=lW _ [] (frees x h) (h4 _ (frees x h) rr);exact uU this⟩
def p6 {scope:Scope}{cells:List (Str×Addr)}{x:Str}(h:(x,NameKind.free)∈scope.names)(hc:(cells.lookup x).isSome=true):(dD scope.names cells []).lookup x=cells.lookup x:=by
 obtain⟨c,e⟩:=uU (lW _ [] h hc);grind[lV]
noncomputable def xT (nT:Nat)(cap:LN)(σ:St):St:=List.replicate nT none++cap.map λi=>(σ[i]?).join
noncomputable def bZ (nT:Nat)(cap:LN)(ρ:Env):Env:=List.replicate nT none++cap.map λi=>match ρ[i]? with|some (some (d,_))=>some (d,false)|_=>none
def wb {α:Type}{nT:Nat}{cap:LN}{f:Nat->Option α}{j:Nat}{v:α}(h:(List.replicate nT none++cap.map f)[j]? = some (some v)):∃k i,j=nT+k/\cap[k]? = some i/\f i=some v:=by
 by_cases hj:j<nT
 .rw[getElem?_append_left (by simpa using hj),List.getElem?_replicate,if_pos hj]at h;cases h
 .rw[getElem?_append_right (by simpa using Nat.not_lt.mp hj),length_replicate,vA]at h;obtain⟨i,h1,h2⟩:=oY h;exact⟨j - nT,i,N9,h1,h2⟩
def Mf {α:Type}{nT:Nat}{cap:LN}{f:Nat->Option α}{k i:Nat}{v:α}(h1:cap[k]? = some i)(h2:f i=some v):(List.replicate nT none++cap.map f)[nT+k]? = some (some v):=by
 rw[getElem?_append_right H9,length_replicate,vA,Nat.add_sub_cancel_left,h1];simp[h2]
def ej.caps {K:Frag}{B:Hp}{σ:St}{ρ:Env}{nT:Nat}{cap:LN}(h:ej K B σ ρ):ej K B (xT nT cap σ) (bZ nT cap ρ):=⟨h.tb,λj d b q=>by
 obtain⟨k,i,rfl,h1,h2⟩:=wb q;split at h2
 .rename_i d' b' e;cases h2
  obtain⟨v,g1,M⟩:=h.at' i _ _ e;exact⟨v,Mf h1 (by rw[g1];rfl),M⟩
 simp_all⟩
noncomputable def fE (tg:FG)(c:FT)(fe:FE)(ρ:Env):LD->Option LD
 |[]=>some []
 |d::r=>(tg d ρ).bind λM=>(c M).bind λb=>if b=true then (fe M).bind λx=>(fE tg c fe ρ r).map (x.1 :: ·)else fE tg c fe ρ r
@[simp] def SS (tg:FG)(c:FT)(fe:FE)(ρ:Env):fE tg c fe ρ []=some []:=by rw[fE]
@[simp] theorem A7 (tg:FG)(c:FT)(fe:FE)(ρ:Env)(d:D)(r:LD):fE tg c fe ρ (d::r)=(tg d ρ).bind λM=>(c M).bind λb=>if b=true then (fe M).bind λx=>(fE tg c fe ρ r).map (x.1 :: ·)else fE tg c fe ρ r:=by rw[fE]
@[simp] def fW (fi:FA)(nT:Nat)(cap:LN)(tg:FG)(c:FT)(fe:FE):FE:=λρ=>(fi ρ).bind λitems=>if items.length<=sizeLine then (fE tg c fe (bZ nT cap ρ) items).map λds=>(.lst ds,true)else none
def Mg (K:Frag)(n:Nat)(tg:FG)(g:TG):Prop:=∀(B H:Hp)(σ:St)(ρ O:Env)(v:V)(d:D)(Q:St->Hp->Prop),(∀i,i<n->ρ[i]? = some none)->ej K B σ ρ->aH B H->Is K B v d->tg d ρ=some O ->
 ρ.length=σ.length->(∀M,ej K B M O->(∀U,ej K U σ ρ->ej K U M ρ)->ρ.length=M.length->Q M H)->g v σ H Q
def pW {K:Frag}{n i:Nat}(hi:i<n):Mg K n (f7 i) (gY i):=by
 intro B H σ ρ U v d Q cl rep s h e hl k;cases e
 have O:i<σ.length:=by
  grind
 refine k _ ⟨rep.tb,λj e b q=>?_⟩ ?_ (by simpa using hl)
 .rcases bG q with⟨rfl,p⟩|⟨ne,p⟩
  .simp_all
  .obtain⟨w,h1,h2⟩:=rep.at' j e b p;simp_all
 .intro a M;refine⟨M.tb,λj e b q=>?_⟩;obtain⟨w,h1,h2⟩:=M.at' j e b q;have ne:i≠j:=λz=>by grind
  exact⟨w,by simp_all,h2⟩
def JC (X:Cx)(M:QD)(c:FT):Prop:=∀(af:AO)(s:Shared)(σ:St)(H:Hp)(Q:Bool->Hp->Prop),Inv X af σ H s->BU X.K c σ H Q ->
 wq X (forIn M true λc r=>if r=true then do let ok <-isTrue c X.env (eval c X.env);pure (ForInStep.yield ok)else pure (ForInStep.yield r)) (TP X af σ Q) X.xe s
@[simp] def xU:FT:=λ_=>some true
def Qu:JC X [] xU:=by
 intro af s σ H Q I h;obtain⟨B,ρ,c,M,rep,e,q⟩:=h;cases e
 exact wpAny_tests_nil ⟨H,I,q H (.refl H)⟩
def Qv (h:JT X e f):JC X [e] f:=λaf s σ H Q I q=>wpAny_tests_one (h _ s σ H Q I q)
inductive CI (Y:Cx)(tn:Nat->Heap->Prop)(fp:List Addr)(N1 H2:Hp)(κ:Env)(a:Addr)(l:List D->Option (List D))(items ds:List D)(s:Shared):Nat->Prop
 |mk (i:Nat) (N:Hp) (vs:List V) (es r:List D) (σ:St) (H:Hp) (I:Inv Y [] σ H s) (ti:tn i s.heap) (hn:∀b∈fp,H b=none) (hi:i<=items.length) (rp:ej Y.K N1 σ κ) (hl:κ.length=σ.length)
   (x:Ext N1 N H2 H) (n0:N a=none) (h0:H a=some (.lst vs)) (vl:vs.length<=i) (iv:IsL Y.K N vs es) (er:l (items.drop i)=some r) (ed:es++r=ds):CI Y tn fp N1 H2 κ a l items ds s (items.length - i)
def Ext.both (x:Ext N1 N H2 H)(y:Ext N1 N' H H'):Ext N (join N N') H H'/\aH N' (join N N'):=by
 refine⟨⟨y.hh,dj,λa o e=>?_,λa o e=>?_⟩,λa o e=>?_⟩
 .cases z:N a with
  |some u'=>rw[dj _ _ z]at e;cases e;exact y.hh _ _ (x.nh _ _ z)
  |none=>rw[da z]at e;exact y.nh _ _ e
 .cases z:N a with
  |some u'=>rw[dj _ _ z]at e;simp_all
  |none=>
   rw[da z]at e;exact(y.new a o e).elim (λM=>by rw[x.bn _ _ M]at z;cases z) .inr
 .exact(y.new a o e).elim (λz=>dj _ _ (x.bn _ _ z)) λz=>by rw[da (x.nh.free z)];exact e
def Ext.off (x:Ext B N H H')(h:B a=none)(h':H a=some o):N a=none:=by
 cases z:N a with
 |none=>rfl
 |some u=>
  rcases x.new _ _ z with z|z
  .rw[h]at z;cases z
  simp_all
def Ef {Y:Cx}(U:Y.calm=true)(hE:∀x s,¬Y.xe x s)(hg:PG Y tg g)(Wa:Mg Y.K nT sU g)(hc:JC Y ve fc)(he:JE Y xz fe)(T:Turn Y.prog Y.w Y.K tg J fp it tn)(Wb:∀i,i<nT->κ[i]? = some none)
  (J1:lU Y.K J N1 items) (hsz:items.length<=sizeLine) (hD:H2 a=none) (Y2:∀H',(∀b∈fp,H' b=none)->∀b∈fp,lg Y [] H' b)
  (hR:∀E O H' N vs,Inv Y [] O H' E->Ext N1 N H2 H'->N a=none->H' a=some (.lst vs)->IsL Y.K N vs ds->R (.ok .next) E) (h:CI Y tn fp N1 H2 κ a (fE sU fc fe κ) items ds s items.length):
  codeAny (model Y.prog Y.w) Y.A (.compLoop (.ListComp xz [⟨tg,dQ,ve,0⟩] scope pos) 0 (.ref it) (.ref a) Y.env) R s:=by
 refine wa hE (λn s=>CI Y tn fp N1 H2 κ a (fE sU fc fe κ) items ds s n) (λn s' h=>?_) _ h;obtain⟨i,N,vs,es,r,O,H',I',ti,hn,hi,rp,jg,x,Y3,WU,FH,Wc,er,X⟩:=h;have sH:aH N1 H':=x.bn.trans x.nh;by_cases mT:i<items.length
 .obtain⟨go,yl⟩:=(J1 i H' sH).1 items[i] (by simp[mT]);refine bI (T.item Y rr rr rr U i [] s' O H' Y.xe I' (Y2 _ hn) ti go) λq E ⟨u,eu,hq⟩=>?_;subst eu;refine bI hq λ_ s5 ⟨xv,F,I5,rx,y5,t5,Yw⟩=>?_;obtain⟨j,x5,i5⟩:=yl xv F y5;obtain⟨x6,c5⟩:=x.both x5;have G:(join N j) a=none:=x6.off Y3 WU;have Z:aH (join N j) F:=x6.nh;rw[List.drop_eq_getElem_cons mT]at er;unfold fE at er;obtain⟨k,e1,er⟩:=oX er;obtain⟨b,e2,er⟩:=oX er;have dI:∀(H:Shared)(f:St)(l I:Hp)(L:LV)(WX r9:LD),Inv Y (pN fp s5.heap) f l H->ej Y.K N1 f κ->κ.length=f.length->Ext N1 I H2 l->I a=none->l a=some (.lst L) ->
    L.length<=i+1->IsL Y.K I L WX->fE sU fc fe κ (items.drop (i+1))=some r9->WX++r9=ds->∃m,m<items.length - i/\CI Y tn fp N1 H2 κ a (fE sU fc fe κ) items ds H m:=λH f l I L WX r9 t rp9 l9 x9 n9 h9 v9 i9 er9 ed9=>
   ⟨_,N9,i+1,I,L,WX,r9,f,l,t.pins_of λp hp=>by simp at hp,T.keep _ _ _ t5 λb hb o e=>(t.pin (b,o) (mY _ (iE hb e))).1,λb hb=>by
    obtain⟨o,e,d⟩:=T.obj _ _ t5 b hb;exact(t.pin (b,o) (mY _ (iE hb e))).2.1,mT,rp9,l9,x9,n9,h9,v9,i9,er9,ed9⟩
  refine bI (hg (pN fp s5.heap) s5 O F xv u (λM P=>P=F/\ej Y.K (join N j) M k/\ej Y.K N1 M κ/\κ.length=M.length) (I5.pinned (Y2 _ Yw) (T.obj _ _ t5)) rx
   (Wa (join N j) F O κ k xv items[i] _ Wb (rp.mono (x.bn.trans dj)) Z (i5.mono c5) e1 jg λσ1 r1 r2 l1=>⟨rr,r1,r2 N1 rp,l1⟩)) λ_ s6 ⟨M,P,I6,eH,Q,S,l6⟩=>?_
  subst eH;have Y4:P a=some (.lst vs):=x5.hh _ _ WU;refine bI (hc _ s6 M P (λc z=>c=b/\aH P z) I6 ⟨join N j,k,b,Z,Q,e2,λz B=>⟨rr,B⟩⟩) λok s7 ⟨z,I7,eb,B⟩=>?_;subst eb;have x7:Ext N1 (join N j) H2 z:=(x.trans x6).trans (.grow Z B);cases ok with
  |false=>
   exact dI s7 M z (join N j) vs es r I7 S l6 x7 G (B _ _ Y4) (le_succ_of_le FH) (Wc.mono dj) er X
  |true=>
   rw[if_pos rr]at er |-;obtain⟨y,e3,er⟩:=oX er;obtain⟨r',e4,er⟩:=oY er;subst er;refine bI (he _ s7 M z (λv V=>∃C,Ext (join N j) C z V/\Is Y.K C v y.1) I7 ⟨join N j,k,y.1,y.2,Z.trans B,Q,e3,λv V C D i8 _=>⟨C,D,i8⟩⟩) λw8 s8 ⟨v8,V,I8,r8,C,D,i8⟩=>?_;refine bI (tN _ s8 M V (.ref a) [v8] (.ref a) [w8] (λ_ l=>l=upd V a (.lst (vs++[v8]))) I8 rr (.cons r8 .nil) ⟨_,vs,v8,rr,rr,D.hh _ _ (B _ _ Y4),N9,rr⟩) λ_ H ⟨_,l,t,_,e9⟩=>?_;subst e9;have W:=D.off G (B _ _ Y4);exact dI H M _ C (vs++[v8]) (es++[y.1]) r' t S l6 ((x7.trans D).upd hD W) W au (by simp_all) ((Wc.mono (dj.trans D.bn)).append (.cons i8 .nil)) e4 (by rw[append_assoc];exact X)
 .obtain rfl:i=items.length:=N9
  rw[List.drop_eq_nil_of_le (vT _)]at er;cases er
  rw[uQ]at X;subst X;refine bI (T.done Y rr rr rr U items.length [] s' O H' Y.xe I' (Y2 _ hn) ti ((J1 _ H' sH).2 (vT _))) λq E ⟨hq,t⟩=>?_;subst hq;exact hR E O H' N vs t x Y3 WU Wc
def pX {X:Cx}(Wf:X.calm=true){tg dQ Z:Expr}{ve:QD}{scope:Scope}{I:Pos}{cl:List (Str×Addr)}{N':LS}{nT:Nat}{cap:LN}{sU:FG}{g:TG}{fc:FT}{fe:FE}
  (S:CompSc X scope cl) (cp:lM X N' scope cl nT cap)
  (hg:∀C s H fp,PG (gN X N' scope cl C s H fp) tg g) (Wa:Mg X.K nT sU g) (hc:∀C s H fp,JC (gN X N' scope cl C s H fp) ve fc) (he:∀C s H fp,JE (gN X N' scope cl C s H fp) Z fe)
  {af:AO}{σ:St}{H2:Hp}{s2:Shared}{it:Addr}{fp:List Addr}{tn:Nat->Heap->Prop}{J:It}{N1:Hp}{ρ:Env}{items ds:LD}{E:QV}
  (f:Inv X af σ H2 s2) (T:Turn X.prog X.w X.K tg J fp it tn) (Oq:tn 0 s2.heap) (f2:∀b∈fp,lg X af H2 b)
  (rep:ej X.K N1 σ ρ) (sN:aH N1 H2) (J1:lU X.K J N1 items) (hsz:items.length<=sizeLine) (ec:fE sU fc fe (bZ nT cap ρ) items=some ds) {RR:Value->Addr->Result->Shared->Prop}
  (hRR:∀(Dd C:Addr)(s':Shared)(H' N:Hp)(vs:LV)(m:SV),H2 Dd=none->Inv X af σ H' s'->s'.heap.Ns C m->lg X af H' C->Ext N1 N H2 H'->N Dd=some (.lst vs)->IsL X.K N vs ds->RR (.ref Dd) C (.ok .next) s'):
  wq X (newList []) (λKU d=>wq X (newFunctionEnv scope X.env.globals cl [] X.env.qual none .none (some X.env)) (λWg L=>
   codeAny (model X.prog X.w) X.A (.compStart (.ListComp Z [⟨tg,dQ,ve,0⟩] scope I) 0 (.ref it) KU { Wg with scope:=relabel scope X.env }) (RR KU Wg.locals) L) E d) E s2:=by
 refine wpAny_newObj_type (wpAny_newFunctionEnv S.nocell (by intro y hy;simp at hy) (λn O U=>?_) S.kind);dsimp only at O U |-;have F:H2 s2.z=none:=f.fresh;have t:=f.lnew (t':=s2.toks) (ys:=[]) (its:=[]) .nil (uN _);generalize P:s2.heap.push _=B at O U t |-;have hC:B.objs.size=s2.z+1:=by rw[<-P,Heap.size_push]
 have W:∀b o,s2.heap.get? b=some o->B.get? b=some o:=λb o e=>P ▸ vZ _ e;have M:∀b o,B.get? b=some o->n.get? b=some o:=λb o e=>U.extBut b o (vS (vX e)) (vZ _ e);have Th:∀b o,B.get? b=some o->b≠B.objs.size:=λb o e=>vS (vX e);have Q:∀b∈fp,∃o,s2.heap.get? b=some o:=λb hb=>let ⟨o,e,_⟩:=T.obj 0 s2.heap Oq b hb;⟨o,e⟩;have fpD:∀b∈fp,b≠s2.z:=λb hb=>let ⟨o,e⟩:=Q b hb;vS (vX e);have R:∀b∈fp,b≠B.objs.size:=λb hb=>let ⟨o,e⟩:=Q b hb;Th b o (W b o e);have hHC:=t.hok.fresh (vT _);let Y:Cx:=gN X N' scope cl B.objs.size { s2 with heap:=B } (upd H2 s2.z (.lst [])) fp;have ok:Y.Ok:=by
  refine⟨f.ok.mod,?_,f.ok.glob,f.ok.blt,vT _,λx y c e1 e2=>f.ok.inj x y c (S.sub x c e1) (S.sub y c e2),λx h=>S.has x h,λx c h=>absurd h uX,f.ok.hd,f.ok.frames,.inl rr,λb hb=>⟨R b hb,λx c e=>(f2 b hb).2.2.2.2.1 x c (S.sub x c e)⟩,λb o e=>?_,?_,λb o e hb=>?_,λb hb hz=>?_,t.stack,λb hb=>t.stkFree b hb⟩
  .show(relabel scope X.env).kind=.function;exact S.kind
  .exact t.bs b o e
  .exact vR t.ok.bsz t.sz
  .have h1:=(f2 b hb).2.2.2.1;rcases h1 with z|z
   .exact f.ok.noex b o e z
   .exact absurd (vQ (vX e) (vR f.ok.bsz z)) (Nat.lt_irrefl _)
  .rcases vP (f.stkSub b hz)with z|z
   .exact(f2 b hb).2.1 z
   .exact(f2 b hb).2.2.1 z
 have I4:Inv Y [] (xT nT cap σ) (upd H2 s2.z (.lst [])) { s2 with heap:=n,toks:=s2.toks+([]:List (Str×Value)).length }:=by
  refine⟨ok,rr,f.bare,Un.kept M,⟨_,O,λj x v e1 e2 e3=>?_⟩,λx c e=>?_,hHC,λx c e=>t.freeC x c (S.sub x c e),λp hp=>absurd (show p∈[]from hp) not_mem_nil,t.hok.kept M,?_⟩
  .obtain⟨k,i,rfl,h1,h2⟩:=wb e2;obtain⟨y,g1,g2,g3',g4,g5⟩:=cp.get h1;have V:N'[nT+k]? = some x:=e1;rw[g1]at V;cases V;have VZ:σ[i]? = some (some v):=by
    cases q:σ[i]? with
    |none=>rw[q]at h2;cases h2
    |some z=>rw[q]at h2;have:z=some v:=h2;rw[this]
   obtain⟨m,_,hl⟩:=t.loc;obtain⟨u,r,l⟩:=hl i _ v g2 VZ (g3'.elim (λz=>.inr (.inl z)) λz=>.inr (.inr z));refine⟨u,r,?_⟩;rcases l with⟨l,_⟩|⟨_,c,lc,ic⟩
   .simp_all
   .refine .inr ⟨g4,c,by show cl.lookup _=some c;simp_all,?_⟩;obtain⟨o,ho,hd⟩:=ic;exact⟨o,M _ _ ho,hd⟩
  .obtain⟨v,o,ho,hd⟩:=t.cell x c (S.sub x c e);exact⟨v,o,M _ _ ho,hd⟩
  .show(xT nT cap σ).length=N'.length;unfold xT;rw[cp.len];simp
 have D:∀d:Shared,d={ s2 with heap:=n,toks:=s2.toks+([]:List (Str×Value)).length }->codeAny (model Y.prog Y.w) Y.A (.compLoop (.ListComp Z [⟨tg,dQ,ve,0⟩] scope I) 0 (.ref it) (.ref s2.z) Y.env) (RR (.ref s2.z) B.objs.size) d:=by
  rintro d rfl;refine Ef (Y:=Y) Wf (λ_ _ z=>z) (hg _ _ _ _) Wa (hc _ _ _ _) (he _ _ _ _) T (λi hi=>?_) J1 hsz F (λH' hn b hb=>⟨hn b hb,R b hb,ok.exfs b hb,.inl hb,λx c e=>(f2 b hb).2.2.2.2.1 x c (S.sub x c e),λp hp=>absurd (show p∈[]from hp) not_mem_nil⟩) (λs4 σ' H' N vs G x Y3 WU Wc=>?_)
   ⟨0,N1,[],[],ds,xT nT cap σ,_,I4,T.keep _ _ _ Oq λb hb o e=>M _ _ (W _ _ e),λb hb=>?_,uN _,rep.caps,?_,(Ext.refl sN).upd F (sN.free F),sN.free F,au,uN _,.nil,by simpa using ec,rr⟩
  .simp_all[bZ,getElem?_append_left]
  .obtain⟨m,hm,_⟩:=G.loc;have k:aH N (upd N s2.z (.lst vs)):=λa o e=>by grind[a5]
   refine hRR s2.z B.objs.size s4 H' (upd N s2.z (.lst vs)) vs m F (f.call' (ch:=fp) G.os ((Un.laid W (vT _) F).trans G.base) G.hok G.bare λb hb=>⟨(f2 b hb).2.2.2.1,(f2 b hb).2.1,(f2 b hb).2.2.2.2.1,(f2 b hb).2.2.2.2.2⟩) hm (f.fpOk (by rw[hC];exact le_succ _) G.free) ⟨x.hh,x.bn.trans k,λa o e=>?_,λa o e=>?_⟩ au (Wc.mono k)
   .by_cases z:a=s2.z
    .simp_all[au]
    .rw[a5 z]at e;exact x.nh _ _ e
   .by_cases z:a=s2.z
    .subst z;exact .inr F
    .rw[a5 z]at e;exact x.new _ _ e
  .rw[a5 (fpD b hb)];exact(f2 b hb).1
  .unfold bZ xT;simp
 exact codeAny_compStart_list (D _ rr) (T.self _ 0 _ _ _ (T.keep _ _ _ Oq λb hb o e=>M _ _ (W _ _ e)) (D _ rr))
def Mh (M:X.calm=true)
  (S:CompSc X scope cl) (cp:lM X N' scope cl nT cap) (hi:JI X tg dQ fi)
  (i:∀C s H fp,PG (gN X N' scope cl C s H fp) tg g) (U:Mg X.K nT sU g) (hc:∀C s H fp,JC (gN X N' scope cl C s H fp) ve fc) (he:∀C s H fp,JE (gN X N' scope cl C s H fp) xz fe)
  (hs:∀x,foldedSetIterable dQ X.env x=pure x:=by intro _;rfl):
  JE X (.ListComp xz [⟨tg,dQ,ve,0⟩] scope pos) (fW fi nT cap sU fc fe):=by
 intro af s σ H Q I h;obtain⟨B,ρ,d,b,j,rep,e,q⟩:=h;obtain⟨items,ei,e⟩:=oX e;have hsz:=Decidable.byContradiction λz=>by rw[if_neg z]at e;cases e
 rw[if_pos hsz]at e;obtain⟨ds,k,e⟩:=oY e;cases e
 refine wpAny_comprehension_free rr hs S.clos S.kind S.names (bI (hi _ s σ H (λJ H2=>∃N1,Ext B N1 H H2/\lU X.K J N1 _) I ⟨B,ρ,items,j,rep,ei,λJ H2 N1 O a=>⟨N1,O,a⟩⟩) λv s1 h1=>bI h1 λA s2 h2=>?_);obtain⟨it,fp,tn,J,H2,e,l,T,n,f2,N1,O,a⟩:=h2;subst e;refine pX M S cp i U hc he l T n f2 (rep.mono O.bn) O.nh a hsz k ?_;intro Dd C s' H' N vs m p r hm fC x f hl;refine⟨m,hm,λh' c=>⟨.ref Dd,H',?_,rr,q _ H' N (O.trans x) (.lst (fD.of f) hl) λ_=>⟨Dd,vs,ds,rr,rr,O.hh.free p,f,hl⟩⟩⟩;obtain⟨t,u,c2,c3,w,y⟩:=fC;exact r.turned (λb o hb e=>(c.2 b hb).trans e) t u c3 w y
def Mi (M:X.calm=true)
  (n:X.N.Nodup) (c:X.N[i]? = some y) (hy:X.env.kindOf y=some .local)
  (p:swapsWith (.ListComp xz [⟨tg,dQ,ve,0⟩] scope pos) (some (.Name y py)) spos.line X.env=pure true)
  (S:CompSc X scope cl) (cp:lM X N' scope cl nT cap) (hi:JI X tg dQ fi)
  (t:∀C s H fp,PG (gN X N' scope cl C s H fp) tg g) (u:Mg X.K nT sU g) (hc:∀C s H fp,JC (gN X N' scope cl C s H fp) ve fc) (he:∀C s H fp,JE (gN X N' scope cl C s H fp) xz fe)
  (hs:∀x,foldedSetIterable dQ X.env x=pure x:=by intro _;rfl):
  JS X (.Assign [.Name y py] (.ListComp xz [⟨tg,dQ,ve,0⟩] scope pos) spos) (dO i (fW fi nT cap sU fc fe)):=by
 intro af s σ H E I h;have h2:=BW h;obtain⟨B,ρ,d,b,A,rep,e,q⟩:=h2;obtain⟨items,ei,e⟩:=oX e;have hsz:=Decidable.byContradiction λz=>by rw[if_neg z]at e;cases e
 rw[if_pos hsz]at e;obtain⟨ds,D,e⟩:=oY e;cases e
 rw[exec_Assign_Name_used _ _ _ _ p];refine wX (wpAny_standAt (wX ?_));refine wX (wpAny_mono (wpAny_comprehension_free rr hs S.clos S.kind S.names
  (bI (hi af s σ H (λJ H2=>∃N1,Ext B N1 H H2/\lU X.K J N1 items) I ⟨B,ρ,items,A,rep,ei,λJ H2 N1 O f=>⟨N1,O,f⟩⟩) λv s1 h1=>bI h1 λZX s2 h2=>?_)) (λ_ s' hq=>wY (wY hq)) λ_ _ e=>e)
 obtain⟨it,fp,tn,J,H2,e,F,T,G,f2,N1,O,f⟩:=h2;subst e;refine pX M S cp t u hc he F T G f2 (rep.mono O.bn) O.nh f hsz D ?_;intro Dd C s' H' N vs m L P hm fC x U hl;obtain⟨Q,k,c2,c3,l,R⟩:=fC;refine wpAny_assign_Name (tH P n c (.inl hy) (r:=show aF (.ref Dd) (.ref Dd)from rr) (λV W ⟨a,Y,ha⟩=>?_) (.inr hy));have Z:C≠a:=by
  rcases ha with z|z
  .rw[z];exact k
  .exact λw=>l y a z w.symm
 refine⟨m,hm.sameBut Y Z,λh' j=>⟨_,H',?_,q _ H' N (O.trans x) (.lst (fD.of U) hl) λ_=>⟨Dd,vs,ds,rr,rr,O.hh.free L,U,hl⟩⟩⟩;exact W.turned (t':=V.toks) (λb o hb e=>(j.2 b hb).trans e) Q k c3 l R
section
variable {X:Cx}{a b c e:Expr}{pos:Pos}
def PE.to (h:PE X e t)(k:∀σ H Q,t' σ H Q->t σ H Q):PE X e t':=λaf s σ H Q I q=>h _ s σ H Q I (k σ H Q q)
def PT.to (h:PT X e t)(k:∀σ H Q,t' σ H Q->t σ H Q):PT X e t':=λaf s σ H Q I q=>h _ s σ H Q I (k σ H Q q)
def PW.to (h:PW X e t)(k:∀σ H Q,t' σ H Q->t σ H Q):PW X e t':=λM af s σ H Q I q=>h M _ s σ H Q I (k σ H Q q)
def PA.to (h:PA X es t)(k:∀σ H Q,t' σ H Q->t σ H Q):PA X es t':=λpos af s σ H Q I q=>h _ _ s σ H Q I (k σ H Q q)
def PS.to {st:Stmt}{t t':TS}(h:PS X st t)(k:∀E σ H,t' E σ H->t E σ H):PS X st t':=λaf s σ H E I q=>h _ s σ H E I (k E σ H q)
def tI.to {st:List Stmt}{t t':TS}(h:tI X st t)(k:∀E σ H,t' E σ H->t E σ H):tI X st t':=λaf s σ H E I q=>h _ s σ H E I (k E σ H q)
def PI.to (h:PI X tg it t)(k:∀σ H Q,t' σ H Q->t σ H Q):PI X tg it t':=λaf s σ H Q I q=>h _ s σ H Q I (k σ H Q q)
def Eg {K:Frag}{d:D}{v:V}(i:∀B,Is K B v d){σ:St}{H:Hp}{Q:VK}(h:tD K (fC d) σ H Q):tC v σ H Q:=by
 obtain⟨B,ρ,d',b,s,r,e,q⟩:=h;cases e
 exact q.one s (i B)
def Qw (i:Nat)(O:X.N[i]? = some x)(hv:Le X.env.scope x)(hd:(x == ("__debug__" : Str))=false)
  (M:(x == ("__classdict__" : Str))=false):JE X (.Name x pos) (am i):=PE.to (jo O hv hd M) λ_ _ _ h=>Qq h
def Qx:JE X (.Constant (.int i) j pos) (fC (.int i)):=PE.to P0 λ_ _ _ h=>Eg (λ_=>.int i) h
def Uu:JE X (.Constant (.bool i) j pos) (fC (.bl i)):=PE.to T1 λ_ _ _ h=>Eg (λ_=>.bl i) h
def Qy:JE X (.Constant .none j pos) (fC .non):=PE.to P1 λ_ _ _ h=>Eg (λ_=>.non) h
def Qz:JE X (.Constant (.str x) j pos) (fC (.str x)):=PE.to P2 λ_ _ _ h=>Eg (λ_=>.str x) h
def Mj (M:Gl X x)(hm:X.mg x=some u)(r:aF v u)(i:∀B,Is X.K B v d)(hd:(x == ("__debug__" : Str))=false:=by decide):JE X (.Name x pos) (fC d):=PE.to (p4 M hm r hd) λ_ _ _ h=>Eg i h
def Uv (ho:cB X (binaryOp op) (rD X.K f))(ha:JE X a fa)(hb:JE X b M):JE X (.BinOp a op b pos) (f2 f fa M):=PE.to (TM ho ha hb) λ_ _ _ h=>LY h
def Uw (ho:TL X (unaryOp op) (X6 X.K f))(ha:JE X a fa):JE X (.UnaryOp op a pos) (f1 f fa):=PE.to (TN ho ha) λ_ _ _ h=>X7 h
def Q0 (ho:cB X (compareOp op) (rD X.K f))(ha:JE X a fa)(hb:JE X b M)(hm:behindInMarks op b=false):JE X (.Compare a [op] [b] pos) (f2 f fa M):=PE.to (L6 ho ha hb hm) λ_ _ _ h=>LY h
def pY {K:Frag}{f:FE}{σ:St}{H:Hp}{Q:Bool->Hp->Prop}(h:BU K (bx f) σ H Q):tD K f σ H λx H'=>∃k,x=.bl k/\Q k H':=by
 obtain⟨B,ρ,c,s,r,e,q⟩:=h;unfold bx at e;split at e
 .rename_i O b' M;cases e
  refine⟨B,ρ,.bl c,b',s,r,M,λv H' N x i _=>?_⟩;cases i
  exact⟨c,rr,q H' x.hh⟩
 simp_all
def Q1 (ho:cB X (compareOp op) (rD X.K f))(ha:JE X a fa)(hb:JE X b M)(hm:behindInMarks op b=false):JT X (.Compare a [op] [b] pos) (bx (f2 f fa M)):=
 PT.to (BM ho ha hb hm) λ_ _ _ h=>LY (pY h)
def Q2 (h:JE X e f)(he:∀M,isTrue e X.env M=(do let v <-M;standAt e.pos;holding [v] (truthy v))):JT X e (bx f):=PT.to (P6 h he) λ_ _ _ q=>pY q
@[simp] noncomputable def ju (f g:D->D->OB)(fa M O:FE):FE:=λρ=>(fa ρ).bind λx=>(M ρ).bind λy=>match f x.1 y.1 with
 |some (.bl true,_)=>(O ρ).bind λz=>g y.1 z.1
 |some (.bl false,_)=>some (.bl false,false)
 |_=>none
def xV {K:Frag}{f g:D->D->OB}{fa l m:FE}{σ:St}{H:Hp}{Q:VK}(h:tD K (ju f g fa l m) σ H Q):As (rD K f) (rD K g) (tD K fa) (tD K l) (tD K m) σ H Q:=by
 obtain⟨B,ρ,d,b,s,r,e,q⟩:=h;obtain⟨x,ex,e⟩:=oX e;obtain⟨y,o,e⟩:=oX e;refine⟨B,ρ,x.1,x.2,s,r,ex,λv C N1 U i1 _=>⟨N1,ρ,y.1,y.2,U.nh,r.mono U.bn,o,λE H2 N2 M i2 _=>?_⟩⟩;split at e
 .rename_i b' i;obtain⟨z,p,e⟩:=oX e;refine⟨N2,x.1,y.1,.bl _,b',M.nh,i1.mono M.bn,i2,i,λt u n O j _=>?_⟩;cases j
  refine⟨true,rr,?_⟩;refine⟨n,ρ,z.1,z.2,O.nh,r.mono (U.bn.trans (M.bn.trans O.bn)),p,λF G w k A _=>⟨w,y.1,z.1,d,b,k.nh,i2.mono (O.bn.trans k.bn),A,e,?_⟩⟩;exact q.into ((U.trans M).trans (O.trans k))
 .rename_i b' i;cases e
  refine⟨N2,x.1,y.1,.bl _,b',M.nh,i1.mono M.bn,i2,i,λt u n O j _=>?_⟩;cases j
  refine⟨false,rr,?_⟩;exact(q.into ((U.trans M).trans O)).one O.nh (.bl _)
 simp_all
def Gy (ho:cB X (compareOp op) (rD X.K f))(M:cB X (compareOp O) (rD X.K g))(ha:JE X a fa)(hb:JE X b U)(hc:JE X c fc)
  (hm:lastMarks [op,O] [b,c]=false):JE X (.Compare a [op,O] [b,c] pos) (ju f g fa U fc):=PE.to (FV ho M ha hb hc hm) λ_ _ _ h=>xV h
def Gz (ho:cB X (compareOp op) (rD X.K f))(M:cB X (compareOp O) (rD X.K g))(ha:JE X a fa)(hb:JE X b U)(hc:JE X c fc)
  (hm:lastMarks [op,O] [b,c]=false):JT X (.Compare a [op,O] [b,c] pos) (bx (ju f g fa U fc)):=PT.to (FW ho M ha hb hc hm) λ_ _ _ h=>xV (pY h)
def Mk {K:Frag}{f g:FT}{σ:St}{H:Hp}{Q:Bool->Hp->Prop}(h:BU K (fg f g) σ H Q):T2 (BU K f) (BU K g) σ H Q:=by
 obtain⟨B,ρ,c,s,r,e,q⟩:=h;unfold fg at e;cases M:f ρ with
 |none=>rw[M]at e;cases e
 |some k=>
  rw[M]at e;refine⟨B,ρ,k,s,r,M,λO h1=>?_⟩;cases k with
  |true=>exact⟨B,ρ,c,s.trans h1,r,e,λH2 h2=>q H2 (h1.trans h2)⟩
  |false=>simp_all
def Q3 {K:Frag}{f g:FT}{σ:St}{H:Hp}{Q:Bool->Hp->Prop}(h:BU K (iF f g) σ H Q):Z6 (BU K f) (BU K g) σ H Q:=by
 obtain⟨B,ρ,c,s,r,e,q⟩:=h;unfold iF at e;cases M:f ρ with
 |none=>rw[M]at e;cases e
 |some k=>
  rw[M]at e;refine⟨B,ρ,k,s,r,M,λO h1=>?_⟩;cases k with
  |false=>exact⟨B,ρ,c,s.trans h1,r,e,λH2 h2=>q H2 (h1.trans h2)⟩
  |true=>simp_all
def Ml {K:Frag}{f:FT}{σ:St}{H:Hp}{Q:Bool->Hp->Prop}(h:BU K (jh f) σ H Q):T3 (BU K f) σ H Q:=by
 obtain⟨B,ρ,c,s,r,e,q⟩:=h;obtain⟨k,ek,e⟩:=oY e;subst e;exact⟨B,ρ,k,s,r,ek,λM h1=>q M h1⟩
variable {aj:QD}
def Mm (ha:JT X a f):JW X (.BoolOp .And [a] pos) f:=Ly ha
def Q4 (ha:JT X a f):JW X (.BoolOp .Or [a] pos) f:=P7 ha
def Q5 (ha:JT X a f)(hb:JW X (.BoolOp .And (b::aj) pos) g):JW X (.BoolOp .And (a::b::aj) pos) (fg f g):=PW.to (P8 ha hb) λ_ _ _ h=>Mk h
def Ux (ha:JT X a f)(hb:JW X (.BoolOp .Or (b::aj) pos) g):JW X (.BoolOp .Or (a::b::aj) pos) (iF f g):=PW.to (T4 ha hb) λ_ _ _ h=>Q3 h
def X8 (h:JW X e f):JT X e f:=h.pt
def Q6 (ha:JT X a f):JT X (.UnaryOp .Not a pos) (jh f):=PT.to (P9 ha) λ_ _ _ h=>Ml h
@[simp] noncomputable def G0 (f g:FE):FE:=λρ=>match f ρ with|some (.bl true,_)=>g ρ|some (.bl false,_)=>some (.bl false,false)|_=>none
@[simp] noncomputable def Uy (f g:FE):FE:=λρ=>match f ρ with|some (.bl true,_)=>some (.bl true,false)|some (.bl false,_)=>g ρ|_=>none
@[simp] noncomputable def G1 (f:FE):FE:=λρ=>match f ρ with|some (.bl c,_)=>some (.bl (!c),false)|_=>none
def Q7 (ha:JE X a f)(hb:JE X (.BoolOp .And (b::aj) pos) g):JE X (.BoolOp .And (a::b::aj) pos) (G0 f g):=PE.to (PD ha hb) λσ H Q h=>by
 obtain⟨B,ρ,d,k,s,r,e,q⟩:=h;unfold G0 at e;split at e
 .rename_i b' O;refine⟨B,ρ,_,_,s,r,O,λv U N1 M i1 _=>?_⟩;cases i1
  refine⟨true,rr,?_⟩;exact⟨N1,ρ,d,k,M.nh,r.mono M.bn,e,q.into M⟩
 .rename_i b' O;cases e
  refine⟨B,ρ,_,_,s,r,O,λv U N1 M i1 _=>?_⟩;cases i1
  refine⟨false,rr,?_⟩;exact(q.into M).one M.nh (.bl _)
 simp_all
def Uz (ha:JE X a f)(hb:JE X (.BoolOp .Or (b::aj) pos) g):JE X (.BoolOp .Or (a::b::aj) pos) (Uy f g):=PE.to (T7 ha hb) λσ H Q h=>by
 obtain⟨B,ρ,d,k,s,r,e,q⟩:=h;unfold Uy at e;split at e
 .rename_i b' O;cases e
  refine⟨B,ρ,_,_,s,r,O,λv U N1 M i1 _=>?_⟩;cases i1
  refine⟨true,rr,?_⟩;exact(q.into M).one M.nh (.bl _)
 .rename_i b' O;refine⟨B,ρ,_,_,s,r,O,λv U N1 M i1 _=>?_⟩;cases i1
  refine⟨false,rr,?_⟩;exact⟨N1,ρ,d,k,M.nh,r.mono M.bn,e,q.into M⟩
 simp_all
def Q8 (h:JE X a f):JE X (.BoolOp op [a] pos) f:=PB h
def Q9 (ha:JE X a f):JE X (.UnaryOp .Not a pos) (G1 f):=PE.to (PF ha) λσ H Q h=>by
 obtain⟨B,ρ,d,k,s,r,e,q⟩:=h;unfold G1 at e;split at e
 .rename_i c b' O;cases e
  refine⟨B,ρ,_,_,s,r,O,λv U N1 M i1 _=>?_⟩;cases i1
  exact⟨c,rr,(q.into M).one M.nh (.bl _)⟩
 simp_all
variable {es:QD}
def ng:JA X [] av:=PA.to f6 λ_ _ _ h=>Ma h
def gG (ha:JE X e f)(M:JA X es g)(hs:starEach (e::es) X.env=(false,eval e X.env)::starEach es X.env:=by rfl):JA X (e::es) (ai f g):=PA.to (dB ha M hs) λ_ _ _ h=>Go h
@[simp] noncomputable def bX:LD->OB:=λds=>if ds.length<=sizeLine then some (.tup ds,false)else none
@[simp] noncomputable def dJ:LD->OB:=λds=>if ds.length<=sizeLine then some (.lst ds,true)else none
def QA {M}(h:JA X es f):JE X (.Tuple es M pos) (fA bX f):=PE.to (Aw h) λσ H Q q=>by
 obtain⟨B,ρ,ds,s,r,e,k⟩:=LZ q;refine⟨B,ρ,ds,s,r,e,λvs O N1 M i1=>?_⟩;obtain⟨g,U,d,b,s2,i2,e2,k2⟩:=k vs O N1 M i1;unfold bX at e2;split at e2
 .rename_i hz;cases e2
  refine⟨by rw[i2.length];exact hz,λp hp=>k2 _ _ _ (.laid s2 hp) (.tup (gF.of au) (i2.mono (Ext.laid s2 hp).bn)) H9⟩
 simp_all
def QB (h:JA X es f):JE X (.List es pos) (fA dJ f):=PE.to (Qe h) λσ H Q q=>by
 obtain⟨B,ρ,ds,s,r,e,k⟩:=LZ q;refine⟨B,ρ,ds,s,r,e,λvs O N1 U i1=>?_⟩;obtain⟨g,M,d,b,s2,i2,e2,k2⟩:=k vs O N1 U i1;unfold dJ at e2;split at e2
 .rename_i hz;cases e2
  refine⟨by rw[i2.length];exact hz,λp hp=>k2 _ _ _ (.laid s2 hp) (.lst (fD.of au) (i2.mono (Ext.laid s2 hp).bn)) λ_=>⟨p,vs,M,rr,rr,hp,au,i2.mono (Ext.laid s2 hp).bn⟩⟩
 simp_all
end
section
variable {X:Cx}
def iG (h:cB X f r)(k:∀x y H Q,U x y H Q->r x y H Q):cB X f U:=λaf s σ H x y v u Q I M O q=>h _ s σ H x y v u Q I M O (k x y H Q q)
noncomputable def U0 (f g:D->D->OB):D->D->OB:=λx y=>match f x y with|some r=>some r|none=>g x y
def pZ (h:cB X s (rD X.K f))(h':cB X s (rD X.K g)):cB X s (rD X.K (U0 f g)):=by
 intro af st σ H x y v u Q I M O q;obtain⟨B,dx,U,d,b,a,c,i,e,q⟩:=q;unfold U0 at e;split at e
 .rename_i r j;cases e
  exact h _ st σ H x y v u Q I M O ⟨B,dx,U,_,_,a,c,i,j,q⟩
 .exact h' _ st σ H x y v u Q I M O ⟨B,dx,U,_,_,a,c,i,e,q⟩
@[simp] noncomputable def A8 (C:Int->Int->Bool)(g:Int->Int->D):D->D->OB
 |.int i,.int j=>if C i j=true then some (g i j,false)else none
 |_,_=>none
def lX (h:cB X s (rI C g))(M:∀i j,C' i j=true->C i j)(O:∀i j B,Is X.K B (g i j) (g' i j)):cB X s (rD X.K (A8 C' g')):=by
 refine iG h λx y H Q q=>?_;obtain⟨B,dx,f,d,b,U,a,c,e,q⟩:=q;cases a<;>try (cases e)
 cases c<;>try (cases e)
 rename_i i j;simp only[A8]at e;split at e
 .rename_i hc;cases e
  exact⟨i,j,rr,rr,M i j hc,q.one U (O i j B)⟩
 simp_all
def fX (h:cB X s (Lg g))(M:∀i j B,Is X.K B (g i j) (g' i j)):cB X s (rD X.K (A8 (λ_ _=>true) g')):=by
 refine iG h λx y H Q q=>?_;obtain⟨B,dx,c,d,b,O,U,a,e,q⟩:=q;cases U<;>try (cases e)
 cases a<;>try (cases e;done)
 rename_i i j;cases e
 exact⟨i,j,rr,rr,q.one O (M i j B)⟩
abbrev X9:D->D->OB:=A8 (λ_ _=>true) λi j=>.int (i+j)
abbrev Mn:D->D->OB:=A8 (λ_ _=>true) λi j=>.int (i - j)
abbrev U1:D->D->OB:=A8 (λi j=>decide ((-18446744073709551616<i/\i<18446744073709551616)\/(-18446744073709551616<j/\j<18446744073709551616))) λi j=>.int (i*j)
abbrev fj:D->D->OB:=A8 (λ_ j=>decide (0<j/\j<1073741824)) λi j=>.int (i / j)
abbrev iH:D->D->OB:=A8 (λ_ j=>decide (0<j)) λi j=>.int (i % j)
abbrev XA:D->D->OB:=A8 (λi j=>decide (0<=j/\j<=1000000/\i.natAbs<18446744073709551616)) λi j=>.int (i ^ j.toNat)
abbrev XB:D->D->OB:=A8 (λ_ _=>true) λi j=>.int (Builtin.bitAnd i j)
abbrev ZI:D->D->OB:=A8 (λ_ _=>true) λi j=>.bl (decide (i<j))
abbrev iLe:D->D->OB:=A8 (λ_ _=>true) λi j=>.bl (decide (i<=j))
abbrev SU:D->D->OB:=A8 (λ_ _=>true) λi j=>.bl (decide (j<i))
abbrev WJ:D->D->OB:=A8 (λ_ _=>true) λi j=>.bl (decide (j<=i))
def U2:cB X (binaryOp .Add) (rD X.K X9):=fX PU λ_ _ _=>.int _
def U3:cB X (binaryOp .Sub) (rD X.K Mn):=fX PX λ_ _ _=>.int _
def U4:cB X (binaryOp .Mult) (rD X.K U1):=lX PY (λi j h=>by simp_all[L4]) λ_ _ _=>.int _
def QC:cB X (binaryOp .FloorDiv) (rD X.K fj):=lX L5 (λi j h=>by simp_all[TR]) λ_ _ _=>.int _
def U5:cB X (binaryOp .Mod) (rD X.K iH):=lX PZ (λ_ _ h=>xy h) λ_ _ _=>.int _
def U6:cB X (binaryOp .Pow) (rD X.K XA):=lX Qa (λi j h=>by simp_all[TU]) λ_ _ _=>.int _
def U7:cB X (binaryOp .BitAnd) (rD X.K XB):=fX Qb λ_ _ _=>.int _
def XC:cB X (compareOp .Lt) (rD X.K ZI):=fX TV λ_ _ _=>.bl _
def XD:cB X (compareOp .LtE) (rD X.K iLe):=fX TW λ_ _ _=>.bl _
def XE:cB X (compareOp .Gt) (rD X.K SU):=fX TX λ_ _ _=>.bl _
def XF:cB X (compareOp .GtE) (rD X.K WJ):=fX TY λ_ _ _=>.bl _
@[simp] noncomputable def XG (C:Str->Str->Bool)(g:Str->Str->D):D->D->OB
 |.str i,.str j=>if C i j=true then some (g i j,false)else none
 |_,_=>none
abbrev XH:D->D->OB:=XG (λi j=>decide (i.length+j.length<=sizeLine)) λi j=>.str (i++j)
abbrev sLe:D->D->OB:=XG (λ_ _=>true) λi j=>.bl (!decide (j.cps.toList<i.cps.toList))
def QE:cB X (binaryOp .Add) (rD X.K XH):=by
 refine iG Au λx y H Q q=>?_;obtain⟨B,dx,a,d,b,M,O,U,e,q⟩:=q;cases O<;>try (cases e)
 cases U<;>try (cases e)
 rename_i i j;simp only[XG]at e;split at e
 .rename_i hc;cases e
  exact⟨i,j,rr,rr,xy hc,q.one M (.str _)⟩
 simp_all
def U8:cB X (compareOp .LtE) (rD X.K sLe):=by
 intro af s σ H x y v u Q I M O q;obtain⟨B,dx,f,d,b,U,a,c,e,q⟩:=q;cases a<;>try (cases e)
 cases c<;>try (cases e;done)
 cases e
 obtain⟨t,rfl⟩:=M;obtain⟨t',rfl⟩:=O;exact PySem.P.le_str ⟨.bl _,H,I,rr,q.one U (.bl _)⟩
end
section
variable {X:Cx}{a b c e:Expr}{pos:Pos}{st:Stmt}{aj:List Stmt}
def QF:xB X [] o4:=tI.to Lz λ_ _ _ h=>Gr h
def Mo (h1:JS X st g)(h2:xB X aj h):xB X (st::aj) (cx g h):=tI.to (FL h1 h2) λ_ _ _ q=>Mb q
def QG (h1:JS X st g):xB X [st] g:=L0 h1
def U9 {c:Expr}{a b:List Stmt}{M:FT}{g h:FS}(hc:JT X c M)(ha:xB X a g)(hb:xB X b h):JS X (.If c a b pos) (A6 M g h):=PS.to (TD hc ha hb) λ_ _ _ q=>Qr q
def QH (he:JE X e f):JS X (.Return (some e) pos) (xP f):=PS.to (FM he) λ_ _ _ q=>Mc q
def Mp (i:Nat)(O:X.N[i]? = some x)(hv:Le X.env.scope x)(hd:(x == ("__debug__" : Str))=false)
  (M:(x == ("__classdict__" : Str))=false):JS X (.Return (some (.Name x p)) pos) (o5 i):=PS.to (FM (jo O hv hd M)) λ_ _ _ q=>Gs q
def QI (M:X.N.Nodup)(he:JE X e f)(hi:X.N[i]? = some x)(hx:Lf X.env.scope x)(hs:swapsWith e (some (.Name x p)) pos.line X.env=pure false)
  (hf:X.fn x=true\/X.env.scope.names.lookup x=some .local):JS X (.Assign [.Name x p] e pos) (dO i f):=PS.to (vj M hi hx he hs hf) λ_ _ _ q=>BW q
def Mr (M:X.N.Nodup)(he:JE X e f)(hi:X.N[i]? = some x)(hx:Lf X.env.scope x)(hs:swapsWith e (some (.Name x p)) pos.line X.env=pure false)
  (hf:X.fn x=true\/X.env.scope.names.lookup x=some .local):JS X (.Assign [.Name x p] e pos) (BV i f):=PS.to (vj M hi hx he hs hf) λ_ _ _ q=>Gu q
def G2 (n:Nat)(hp:PassesOwn (model X.prog X.w) X.A X.env X.xe)(hc:JT X c O)(hb:xB X M g):JS X (.While c M [] pos) (fT O g n):=PS.to (FQ hp hc hb) λ_ _ _ q=>Ee q
def QJ (hp:PassesOwn (model X.prog X.w) X.A X.env X.xe)(hc:X.calm=true)(hi:JI X tg dQ fi)(M:PG X tg t)(O:Lh X.K sU t)(hb:xB X U g)
  (hs:∀x,foldedSetIterable dQ X.env x=pure x:=by intro _;rfl):JS X (.For tg dQ U [] pos) (xR fi sU g):=PS.to (FU hp hc hi M hb hs) λ_ _ _ q=>Me O q
def Ms (hp:PassesOwn (model X.prog X.w) X.A X.env X.xe)(hc:X.calm=true)(hi:PI X tg dQ (Ut X.K fi))(M:PG X tg t)(O:Lh X.K sU t)(hb:xB X U g)
  (hs:∀x,foldedSetIterable dQ X.env x=pure x:=by intro _;rfl):JS X (.For tg dQ U [] pos) (tS fi sU g):=PS.to (FU hp hc hi M hb hs) λ_ _ _ q=>Gx O q
def QK (he:JE X e f)(d:X.N[i]? = some x)(hv:Le X.env.scope x)(hd:(x == ("__debug__" : Str))=false)
  (g:(x == ("__classdict__" : Str))=false)
  (M:attributeBase (.Name x p) "append" X.env (eval (.Name x p) X.env)=eval (.Name x p) X.env)
  (U:((backTo b8 (starEach [e] X.env)).all (λx=>!x.1) && (backToKw b8 (keywordEach [] X.env)).all (λx=>x.1.isSome)
   && decide ([e].length+([]:List Keyword).length+(if([]:List Keyword).isEmpty then 0 else 1)<30))=true)
  (O:(cm.endLine == b8.line)=true) (hs:starEach [e] X.env=[(false,eval e X.env)]) (h:swapsWith (.Call (.Attribute (.Name x p) "append" cm) [e] [] b8) none pos.line X.env=pure false):
  JS X (.Expr (.Call (.Attribute (.Name x p) "append" cm) [e] [] b8) pos) (v0 i f):=by
 refine PS.to (BK (xJ plainAttrs_list PySem.F.slot_list_append PySem.F.type_list_append tN (jo d hv hd g) (dB he f6 hs) M U O hs rr) h) λE σ H q=>?_;obtain⟨a,us,h1,h2,k⟩:=Md q;exact⟨_,h1,.inl ⟨rr,us,fD.of h2⟩,k⟩
end
@[simp] noncomputable def ax (g:FS)(n k:Nat):LD->OB:=λds=>if ds.length=n then
 match g (ds.map (λd=>some (d,false))++List.replicate k none) with
 |some (.rt d b)=>some (d,b)
 |some (.nx _)=>some (.non,false)
 |_=>none
 else none
def Li (K:Frag)(f:LD->OB):Sp:=λvs H Q _=>∃(B:Hp)(ds:LD)(d:D)(b:Bool),(aH B H/\Tb K B)/\IsL K B vs ds/\f ds=some (d,b)/\Fin K B H d b Q
def xW {K:Frag}{B H:Hp}{vs:LV}{ds:LD}{N:LS}(O:aH B H)(tb:Tb K B)(i:IsL K B vs ds):cQ K B H B H (L2.kK N vs) (ds.map (λd=>some (d,false))++List.replicate (N.length - vs.length) none):=by
 have M:∀(j:Nat)(d:D)(b:Bool),(ds.map (λd=>some (d,false))++List.replicate (N.length - vs.length) none:Env)[j]? = some (some (d,b))->b=false/\ds[j]? = some d:=λj d b e=>by
  by_cases hj:j<ds.length
  .rw[getElem?_append_left (by simpa using hj),vA]at e;obtain⟨d',h1,h2⟩:=oY e;cases h2
   exact⟨rr,h1⟩
  .rw[getElem?_append_right (by simpa using Nat.not_lt.mp hj),List.getElem?_replicate]at e;split at e<;>cases e
 have no:∀a,¬own (L2.kK N vs) (ds.map (λd=>some (d,false))++List.replicate (N.length - vs.length) none) a:=λa ⟨j,d,h,_⟩=>by
  obtain⟨z,_⟩:=M j d true h;cases z
 refine⟨O,tb,.refl O,?_,λj d e=>?_,λj d e=>?_,λj k a d e h=>?_⟩
 .unfold L2.kK;rw[uZ,uZ,vI,vI,length_replicate,length_replicate,i.length]
 .obtain⟨_,U⟩:=M j d false e;obtain⟨v,h1,h2⟩:=i.get U;refine⟨v,?_,h2.mono λa o e=>by rw[cf (no a)];exact e⟩;unfold L2.kK;have hj:=(vV h1).1;rw[getElem?_append_left (by simpa using hj),vA,h1]<;>rfl
 .obtain⟨z,_⟩:=M j d true e;cases z
 .obtain⟨z,_⟩:=M j d true h;cases z
section
variable {P:Program}{w:World}{K:Frag}{mg:SV}{base:Heap}
def UA {x qual:Str}{st:Stmt}{f:Addr}{fd:FuncData}{N ps:LS}{k:Nat}{g:FS}(F:Ss K x qual st f fd)(S:FnScope N ps (aC st))
  (hb:∀(dA:Value)(A:Around)(outer:List PySem.Env)(s:Shared)(H:Hp)(E:XK),dq k (A.deeper (envOfC qual (aC st) s.z f dA))->xB (pf xK P w K mg base N qual (aC st) f dA A outer s H E).nox (bF st) g):
  mO P w K mg base xK (k+1) f fd ps (Li K (ax g ps.length (N.length - ps.length))):=by
 have len:∀vs H Q E,Li K (ax g _ (N.length - ps.length)) vs H Q E->vs.length=ps.length:=λvs H Q E h=>by
  obtain⟨B,ds,d,b,O,i,e,q⟩:=h;unfold ax at e;split at e
  .rename_i hl;rw[i.length];exact hl
  simp_all
 refine F.ok S len λdA A outer s H vs Q E c h=>⟨_,hb _ A _ s H E c,?_⟩;have M:=len vs H Q E h;obtain⟨B,ds,d,b,O,i,e,q⟩:=h;unfold ax at e;rw[if_pos (by rw[<-i.length];exact M)]at e;have U:=xW (N:=N) O.1 O.2 i;rw[M]at U;split at e
 .rename_i d' b' a;cases e
  exact⟨B,H,_,_,⟨B,U⟩,a,λv H' N' j l m=>q v H' N' j l m⟩
 .rename_i ρ' a;cases e
  exact⟨B,H,_,_,⟨B,U⟩,a,λn H' ⟨N',s'⟩=>q _ H' N' s'.ext .non H9⟩
 simp_all
structure Fn (P:Program)(w:World)(K:Frag)(mg:Str->Option Value)(base:Heap)(k:Nat)(x:Str)(f:List D->OB):Prop where
 ex:∃(ad:Addr)(fd:FuncData)(ps:List Str),mO P w K mg base xK k ad fd ps (Li K f)/\mg x=some (.ref ad)/\PySem.W.keepIn K (.ref ad)=true/\oy K fd ps []
end
def Mt (F:Fn X.prog X.w X.K X.mg X.base k x f)(a:dq k X.A)(ha:JA X (e::es) fa)(c:Gl X x:=by rfl)
  (M:(x == ("__debug__" : Str))=false:=by decide) (he:starEach (e::es) X.env=(false,eval e X.env)::starEach es X.env:=by rfl) (O:(backTo pos (starEach es X.env)).any (·.1)=false:=by rfl):
  JE X (.Call (.Name x p) (e::es) [] pos) (fA f fa):=by
 obtain⟨ad,fd,ps,g,hm,hk,hb⟩:=F.ex;refine PE.to (L8 g a c hm hk hb .nil Uh ha M he O) λσ H Q q=>?_;obtain⟨B,ρ,d,b,s,r,e,q⟩:=q;obtain⟨ds,ex,e⟩:=oX e;exact⟨B,ρ,ds,s,r,ex,λvs h N1 U i1=>by
  show Li _ f _ h Q _;rw[uQ];exact⟨N1,ds,d,b,⟨U.nh,r.tb.mono U.bn⟩,i1,e,q.into U⟩⟩
mutual
def dm:D->D->Bool
 |.non,.non=>true
 |.bl a,.bl b=>a == b
 |.bl a,.int b=>decide ((if a then 1 else 0)=b)
 |.int a,.bl b=>decide (a=(if b then 1 else 0))
 |.int a,.int b=>decide (a=b)
 |.str a,.str b=>decide (a=b)
 |.tup xs,.tup ys=>jv xs ys
 |.lst xs,.lst ys=>jv xs ys
 |_,_=>false
@[simp] def jv:LD->LD->Bool
 |[],[]=>true
 |x::xs,y::ys=>dm x y && jv xs ys
 |_,_=>false
end
@[simp] theorem xX (a b:Str):dm (.str a) (.str b)=decide (a=b):=rfl
@[simp] def xx0:dm .non .non=true:=rfl
@[simp] def xx1 (a b:Bool):dm (.bl a) (.bl b)=(a == b):=rfl
@[simp] def xx2 (a b:Int):dm (.int a) (.int b)=decide (a=b):=rfl
@[simp] def xx3 (a b:LD):dm (.tup a) (.tup b)=jv a b:=rfl
@[simp] def xx4 (a b:LD):dm (.lst a) (.lst b)=jv a b:=rfl
@[simp] def xx5 (a:Str)(b:Int):dm (.str a) (.int b)=false:=rfl
@[simp] def xx6 (a:Int)(b:Str):dm (.int a) (.str b)=false:=rfl
@[simp] def xx12 (a:LD)(b:Str):dm (.lst a) (.str b)=false:=rfl
@[simp] noncomputable def aQ:Nat->D->Bool
 |_,.non=>true
 |_,.bl _=>true
 |_,.int _=>true
 |_,.str _=>true
 |_,.ty _=>false
 |_,.dk _ _=>false
 |_,.dt _ _=>false
 |0,.tup _=>false
 |0,.lst _=>false
 |n+1,.tup ds=>ds.all (aQ n)
 |n+1,.lst ds=>ds.all (aQ n)
theorem xY:∀ {xs ys:LD},jv xs ys=true->xs.length=ys.length
 |[],[],_=>rr
 |x::xs,y::ys,h=>by
  simp [jv,vC]at h;rw[vE,vE,xY h.2]
 |[],_::_,h=>by simp at h
 |_::_,[],h=>by simp at h
def wc (h:xs.length≠ys.length):jv xs ys=false:=by
 grind[xY]
theorem iI (f:Nat->Bool):∀ {xs ys:LD},xs.length=ys.length->(∀(j:Nat) x y,xs[j]? = some x->ys[j]? = some y->f j=dm x y)->(List.range xs.length).all f=jv xs ys
 |[],[],_,_=>by simp
 |x::xs,y::ys,hl,h=>by
  have e:=iI _ (by simpa using hl) λj a b h1 h2=>h (j+1) a b (by simpa using h1) (by simpa using h2);rw[vE,List.range_succ_eq_map,all_cons,List.all_map,jv,<-h 0 x y rr rr,<-e];rfl
 |[],_::_,hl,_=>by simp at hl
 |_::_,[],hl,_=>by simp at hl
section
variable {X:Cx}{af:AO}{σ:St}{H:Hp}{s:Shared}
def BX (I:Inv X af σ H s)(h1:gF X.K H a vs)(h2:fD X.K H a ws):False:=by
 obtain⟨its,_,⟨o,e,c,_⟩,_⟩:=I.tuple h1;obtain⟨its',_,⟨o',M,O,U,_⟩,_⟩:=I.list h2;lia
def BY (I:Inv X af σ H s)(e:s.heap.get? a=some o)(d:o.data=.seq its n):(∀a8 ob,H a≠some (.dK a8 ob))/\∀a8,H a≠some (.dT a8):=by
 refine⟨λa8 ob h=>?_,λa8 h=>?_⟩
 .obtain⟨_,_,_,_,_,o',es,M,O,_,d',_⟩:=(show bf _ _ H _ a _ from I.hok a _ h);simp_all
 .obtain⟨_,_,_,_,o',es,M,O,_,d',_⟩:=(show bf _ _ H _ a _ from I.hok a _ h);simp_all
def xZ (I:Inv X af σ H s)(h1:gF X.K H a vs):(∀a8 ob,H a≠some (.dK a8 ob))/\∀a8,H a≠some (.dT a8):=by
 obtain⟨its,_,⟨o,e,c,n,d⟩,_⟩:=I.tuple h1;exact BY I e d
def ya (I:Inv X af σ H s)(h1:fD X.K H a vs):(∀a8 ob,H a≠some (.dK a8 ob))/\∀a8,H a≠some (.dT a8):=by
 obtain⟨its,_,p,_⟩:=I.list h1;obtain⟨o,e,c,n,d⟩:=p.isList;exact BY I e d
def BZ (I:Inv X af σ H s):∀(n:Nat){v:V}{d d':D},Is X.K H v d->Is X.K H v d'->aQ n d=true->dm d d'=true:=by
 have M:∀ {p:D->Bool}(U:∀ {v:V}{d d':D},Is X.K H v d->Is X.K H v d'->p d=true->dm d d'=true) {vs:LV}{ds O:LD},IsL X.K H vs ds->IsL X.K H vs O->ds.all p=true->jv ds O=true:=by
  intro p U vs;induction vs with
  |nil=>intro ds O h h' _;cases h;cases h';rfl
  |cons v vs a=>
   intro ds O h h' hp;cases h with
   |cons h1 h2=>
    cases h' with
    |cons h3 h4=>
     rw[all_cons,vC]at hp;rw[jv,U h1 h3 hp.1,a h2 h4 hp.2];rfl
 intro n;induction n with
 |zero=>
  intro v d d' h h' hp;cases h<;>cases h'<;>first|(simp at hp;done)|simp
 |succ n U=>
  intro v d d' h h' hp;cases h with
  |tup h1 h2=>
   cases h' with
   |tup h3 h4=>
    rw[I.tuple_inj h3 h1]at h4;exact M U h2 h4 (by simpa [aQ]using hp)
   |lst h3 h4=>exact(BX I h1 h3).elim
   |dk h3 _ _=>exact((xZ I h1).1 _ _ h3).elim
   |dt h3 _ _=>exact((xZ I h1).2 _ h3).elim
  |lst h1 h2=>
   cases h' with
   |lst h3 h4=>
    rw[I.list_inj h3 h1]at h4;exact M U h2 h4 (by simpa [aQ]using hp)
   |tup h3 h4=>exact(BX I h3 h1).elim
   |dk h3 _ _=>exact((ya I h1).1 _ _ h3).elim
   |dt h3 _ _=>exact((ya I h1).2 _ h3).elim
  |ty=>simp at hp
  |dk=>simp at hp
  |dt=>simp at hp
  |_=>cases h'<;>simp
def yc {A:Around}{p:D->Bool}(f:∀ {O U:V}{d1 d2:D}{a b:Value},p d1=true->p d2=true->Is X.K H O d1->Is X.K H U d2->aF O a->aF U b->SeqAt.EqAt A s a b (dm d1 d2))
  {vs ws:LV}{ds es:LD}{its M:LU}(i1:IsL X.K H vs ds) (i2:IsL X.K H ws es) (c:aL vs its) (e:aL ws M) (g:ds.all p=true) (p2:es.all p=true):
  ∀j (h1:j<its.toArray.size) (h2:j<M.toArray.size),SeqAt.EqAt A s its.toArray[j] M.toArray[j] (dm (ds.getD j .non) (es.getD j .non)):=by
 intro j h1 h2;rw[vH]at h1 h2;have l1:=c.length;have l2:=e.length;have h:=i1.length;have k:=i2.length;have hv:j<vs.length:=N9
 have hw:j<ws.length:=N9
 have hd:j<ds.length:=N9
 have he:j<es.length:=N9
 obtain⟨u,l,m⟩:=c.get (i:=j) (x:=vs[j]) (by simp );obtain⟨u',e2,q2⟩:=e.get (i:=j) (x:=ws[j]) (by simp );obtain⟨v,n,o⟩:=i1.get (i:=j) (d:=ds[j]) (by simp );obtain⟨w,q,r⟩:=i2.get (i:=j) (d:=es[j]) (by simp );grind
def we {xs ys:LD}(j:Nat)(x y:D)(h1:xs[j]? = some x)(h2:ys[j]? = some y):dm (xs.getD j .non) (ys.getD j .non)=dm x y:=by
 simp[h1,h2]
abbrev XI (A:Around)(s:Shared)(M O:Value)(b:Bool):Prop:=SeqAt.RcAt A s M O b/\SeqAt.EqAt A s M O b/\SeqAt.RcNeAt A s M O (!b)
def Ca {M O:Addr}(rc:SeqAt.RcAt A s (.ref M) (.ref O) b)(U:SeqAt.RcNeAt A s (.ref M) (.ref O) (!b))(h:M=O->b=true):XI A s (.ref M) (.ref O) b:=by
 grind[SeqAt.EqAt.same,SeqAt.EqAt.of_refs]
def ye (U:aQ 0 d1=true)(p2:aQ 0 d2=true)(i1:Is X.K H v1 d1)(i2:Is X.K H v2 d2)(O:aF v1 u1)(M:aF v2 u2):XI A s u1 u2 (dm d1 d2):=by
 cases i1 with
 |non=>
  cases O
  cases i2 with
  |non=>cases M;exact⟨.none_none,.same _,.none_none⟩
  |bl b=>cases M;exact⟨.none_bool _,.none_bool _,.none_bool _⟩
  |int b=>obtain⟨t',rfl⟩:=M;exact⟨.none_int _ _,.none_int _ _,.none_int _ _⟩
  |str b=>obtain⟨t',rfl⟩:=M;exact⟨.none_str _ _,.none_str _ _,.none_str _ _⟩
  |_=>simp at p2
 |bl a=>
  cases O
  cases i2 with
  |non=>cases M;exact⟨.bool_none _,.bool_none _,.bool_none _⟩
  |bl b=>cases M;exact⟨.bool_bool _ _,.bool_bool _ _,.bool_bool _ _⟩
  |int b=>obtain⟨t',rfl⟩:=M;exact⟨.bool_int _ _ _,.bool_int _ _ _,.bool_int _ _ _⟩
  |str b=>obtain⟨t',rfl⟩:=M;exact⟨.bool_str _ _ _,.bool_str _ _ _,.bool_str _ _ _⟩
  |_=>simp at p2
 |int a=>
  obtain⟨t,rfl⟩:=O;cases i2 with
  |non=>cases M;exact⟨.int_none _ _,.int_none _ _,.int_none _ _⟩
  |bl b=>cases M;exact⟨.int_bool _ _ _,.int_bool _ _ _,.int_bool _ _ _⟩
  |int b=>obtain⟨t',rfl⟩:=M;exact⟨.int_int _ _ _ _,.int_int _ _ _ _,.int_int _ _ _ _⟩
  |str b=>obtain⟨t',rfl⟩:=M;exact⟨.int_str _ _ _ _,.int_str _ _ _ _,.int_str _ _ _ _⟩
  |_=>simp at p2
 |str a=>
  obtain⟨t,rfl⟩:=O;cases i2 with
  |non=>cases M;exact⟨.str_none _ _,.str_none _ _,.str_none _ _⟩
  |bl b=>cases M;exact⟨.str_bool _ _ _,.str_bool _ _ _,.str_bool _ _ _⟩
  |int b=>obtain⟨t',rfl⟩:=M;exact⟨.str_int _ _ _ _,.str_int _ _ _ _,.str_int _ _ _ _⟩
  |str b=>obtain⟨t',rfl⟩:=M;exact⟨.str_str _ _ _ _,.str_str _ _ _ _,.str_str _ _ _ _⟩
  |_=>simp at p2
 |_=>simp at U
def OG (I:Inv X af σ H s):∀(n:Nat){A:Around}{f g:V}{d1 d2:D}{h i:Value},A.units+n<cLine->aQ n d1=true->aQ n d2=true->Is X.K H f d1->Is X.K H g d2->aF f h->aF g i->XI A s h i (dm d1 d2):=by
 intro n;induction n with
 |zero=>exact λ_ c p2 i1 i2 a b=>ye c p2 i1 i2 a b
 |succ n z=>
  intro A f g d1 d2 h i hu c p2 i1 i2 a b;have M:A.units<cLine:=N9
  have k:∀ {f g:V}{d1 d2:D}{h i:Value},aQ n d1=true->aQ n d2=true->Is X.K H f d1->Is X.K H g d2->aF f h->aF g i->SeqAt.EqAt A.in1 s h i (dm d1 d2):=λc p2 i1 i2 a b=>(z (A:=A.in1) (by show A.units+1+n<cLine;lia) c p2 i1 i2 a b).2.1;by_cases f2:aQ 0 d2=true
  .by_cases f1:aQ 0 d1=true
   .exact ye f1 f2 i1 i2 a b
   .cases i1 with
    |tup h1 k1=>
     cases a
     obtain⟨its,d,O,l⟩:=I.tuple h1;cases i2 with
     |non=>cases b;exact⟨.tuple_none O M,.tuple_none O M,.tuple_none O M⟩
     |bl=>cases b;exact⟨.tuple_bool _ O M,.tuple_bool _ O M,.tuple_bool _ O M⟩
     |int=>obtain⟨t,rfl⟩:=b;exact⟨.tuple_int _ _ O M,.tuple_int _ _ O M,.tuple_int _ _ O M⟩
     |str=>obtain⟨t,rfl⟩:=b;exact⟨.tuple_str _ _ O M,.tuple_str _ _ O M,.tuple_str _ _ O M⟩
     |_=>simp at f2
    |lst h1 k1=>
     cases a
     obtain⟨its,d,O,l⟩:=I.list h1;replace O:=O.isList;cases i2 with
     |non=>cases b;exact⟨.list_none O M,.list_none O M,.list_none O M⟩
     |bl=>cases b;exact⟨.list_bool _ O M,.list_bool _ O M,.list_bool _ O M⟩
     |int=>obtain⟨t,rfl⟩:=b;exact⟨.list_int _ _ O M,.list_int _ _ O M,.list_int _ _ O M⟩
     |str=>obtain⟨t,rfl⟩:=b;exact⟨.list_str _ _ O M,.list_str _ _ O M,.list_str _ _ O M⟩
     |_=>simp at f2
    |_=>simp at f1 c
  .cases i2 with
   |tup h2 k2=>
    cases b
    obtain⟨m,o,U,B⟩:=I.tuple h2;cases i1 with
    |tup h1 k1=>
     cases a
     obtain⟨its,d,O,l⟩:=I.tuple h1;rename_i r ws es u vs ds;have he:=yc (A:=A.in1) (p:=aQ n) k k1 k2 d o (by simpa using c) (by simpa using p2);have v:((List.range (min its.toArray.size m.toArray.size)).all (λj=>dm (ds.getD j .non) (es.getD j .non)) && its.toArray.size == m.toArray.size)=dm (.tup ds) (.tup es):=by
      show _=jv ds es;rw[vH,vH,<-d.length,<-o.length,k1.length,k2.length];by_cases hl:ds.length=es.length
      .rw[<-hl,Nat.min_self,beq_self_eq_true,Bool.and_true];exact iI _ hl λj x y w e2=>we j x y w e2
      simp_all[wc]
     have rc:=SeqAt.RcAt.tuples O U M he;have q:=SeqAt.RcNeAt.tuples O U M he;rw[v]at rc q;exact Ca rc q λe=>by subst e;exact BZ I (n+1) (.tup h1 k1) (.tup h2 k2) c
    |lst h1 k1=>cases a;obtain⟨its,d,O,l⟩:=I.list h1;exact⟨.list_tuple O.isList U M,.list_tuple O.isList U M,.list_tuple O.isList U M⟩
    |non=>cases a;exact⟨.none_tuple U M,.none_tuple U M,.none_tuple U M⟩
    |bl=>cases a;exact⟨.bool_tuple _ U M,.bool_tuple _ U M,.bool_tuple _ U M⟩
    |int=>obtain⟨t,rfl⟩:=a;exact⟨.int_tuple _ _ U M,.int_tuple _ _ U M,.int_tuple _ _ U M⟩
    |str=>obtain⟨t,rfl⟩:=a;exact⟨.str_tuple _ _ U M,.str_tuple _ _ U M,.str_tuple _ _ U M⟩
    |_=>simp at c
   |lst h2 k2=>
    cases b
    obtain⟨m,o,U,B⟩:=I.list h2;replace U:=U.isList;cases i1 with
    |lst h1 k1=>
     cases a
     obtain⟨its,d,O,l⟩:=I.list h1;replace O:=O.isList;rename_i r ws es u vs ds;have he:=yc (A:=A.in1) (p:=aQ n) k k1 k2 d o (by simpa using c) (by simpa using p2);have both:SeqAt.RcAt A s (.ref u) (.ref r) (dm (.lst ds) (.lst es))/\SeqAt.RcNeAt A s (.ref u) (.ref r) (!dm (.lst ds) (.lst es)):=by
      have hz:its.toArray.size=ds.length/\m.toArray.size=es.length:=by rw[vH,vH,<-d.length,<-o.length,k1.length,k2.length];simp
      by_cases hl:ds.length=es.length
      .have v:(List.range its.toArray.size).all (λj=>dm (ds.getD j .non) (es.getD j .non))=dm (.lst ds) (.lst es):=by
        show _=jv ds es;rw[hz.1];exact iI _ hl λj x y w e2=>we j x y w e2
       have hs:=(hz.1.trans hl).trans hz.2.symm;have rc:=SeqAt.RcAt.lists O U hs M he;have q:=SeqAt.RcNeAt.lists O U hs M he;rw[v]at rc q;exact⟨rc,q⟩
      .have hs:(its.toArray.size != m.toArray.size)=true:=by simp_all
       rw[show dm (.lst ds) (.lst es)=false from wc hl];exact⟨.lists_lengths O U hs M,.lists_lengths O U hs M⟩
     exact Ca both.1 both.2 λe=>by subst e;exact BZ I (n+1) (.lst h1 k1) (.lst h2 k2) c
    |tup h1 k1=>cases a;obtain⟨its,d,O,l⟩:=I.tuple h1;exact⟨.tuple_list O U M,.tuple_list O U M,.tuple_list O U M⟩
    |non=>cases a;exact⟨.none_list U M,.none_list U M,.none_list U M⟩
    |bl=>cases a;exact⟨.bool_list _ U M,.bool_list _ U M,.bool_list _ U M⟩
    |int=>obtain⟨t,rfl⟩:=a;exact⟨.int_list _ _ U M,.int_list _ _ U M,.int_list _ _ U M⟩
    |str=>obtain⟨t,rfl⟩:=a;exact⟨.str_list _ _ U M,.str_list _ _ U M,.str_list _ _ U M⟩
    |_=>simp at c
   |_=>simp at f2 p2
@[simp] def jV:D->D->OB:=λx y=>if aQ 40 x=true/\aQ 40 y=true then some (.bl (dm x y),false)else none
@[simp] def wg:D->D->OB:=λx y=>if aQ 40 x=true/\aQ 40 y=true then some (.bl (!dm x y),false)else none
def XJ (hu:X.A.units+40<cLine):cB X (compareOp .Eq) (rD X.K jV):=by
 intro af s σ H x y v u Q I O U q;obtain⟨B,dx,f,d,b,M,a,c,e,q⟩:=q;unfold jV at e;split at e
 .rename_i hp;cases e
  exact(OG I 40 hu hp.1 hp.2 (a.mono M) (c.mono M) O U).1 _ _ _ _ ⟨.bl _,H,I,rr,q.one M (.bl _)⟩
 simp_all
def XM (hu:X.A.units+40<cLine):cB X (compareOp .NotEq) (rD X.K wg):=by
 intro af s σ H x y v u Q I O U q;obtain⟨B,dx,f,d,b,M,a,c,e,q⟩:=q;unfold wg at e;split at e
 .rename_i hp;cases e
  exact(OG I 40 hu hp.1 hp.2 (a.mono M) (c.mono M) O U).2.2 _ _ _ _ ⟨.bl _,H,I,rr,q.one M (.bl _)⟩
 simp_all
end
section
variable {X:Cx}{a b e:Expr}{pos:Pos}
def Cb {K:Frag}{H:Hp}{vs:LV}{ds:LD}{i:Int}{d:D}(h:IsL K H vs ds)(e:mQ ds i=some d):∃v,mQ vs i=some v/\Is K H v d:=by
 unfold mQ at e |-;rw[h.length];cases q:Gb _ i with
 |none=>rw[q]at e;cases e
 |some j=>rw[q]at e;exact h.get e
@[simp] def eA:D->D->OB
 |.lst ds,.int i=>(mQ ds i).map λd=>(d,false)
 |.tup ds,.int i=>(mQ ds i).map λd=>(d,false)
 |.str z,.int i=>if z.length<=sizeLine then (mQ z.cps.toList i).map λc=>(.str ⟨#[c]⟩,false)else none
 |_,_=>none
def XN:Gc X (rD X.K eA):=by
 intro U f af s σ H x y v u Q I g j q hs;obtain⟨B,dx,m,d,b,M,k,l,e,q⟩:=q;cases k<;>try (cases e)
 all_goals (cases l<;>try (cases e))
 .simp only[eA]at e;split at e
  .rename_i hz;obtain⟨c,O,e2⟩:=oY e;cases e2
   exact A0 _ _ _ s σ H _ _ v u Q I g j ⟨_,_,c,rr,rr,hz,O,q.one M (.str _)⟩ hs
  simp_all
 .rename_i h hl i;obtain⟨c,O,e2⟩:=oY e;cases e2
  obtain⟨w,h1,h2⟩:=Cb hl O;exact vn _ _ _ s σ H _ _ v u Q I g j ⟨_,_,_,w,rr,rr,aV M h,h1,q.one M h2⟩ hs
 .rename_i h hl i;obtain⟨c,O,e2⟩:=oY e;cases e2
  obtain⟨w,h1,h2⟩:=Cb hl O;exact LL _ _ _ s σ H _ _ v u Q I g j ⟨_,_,_,w,rr,rr,M.seq h,h1,q.one M h2⟩ hs
def UB (ha:JE X a fa)(hb:JE X b M)(hs:lP b):JE X (.Subscript a b pos) (f2 eA fa M):=PE.to (Gd XN ha hb hs) λ_ _ _ h=>LY h
abbrev FO:=Env->Option OI
def tDO (K:Frag)(f:FO):TO:=λσ H Q=>∃(B:Hp)(ρ:Env)(o:OI),aH B H/\ej K B σ ρ/\f ρ=some o/\∀H',aH H H'->Q o H'
abbrev JO (X:Cx)(e:Option Expr)(f:FO):Prop:=PO X e (tDO X.K f)
@[simp] def tV:FO:=λ_=>some none
@[simp] noncomputable def qc (f:FE):FO:=λρ=>match f ρ with|some (.int i,_)=>some (some i)|_=>none
def Mu:JO X none tV:=λaf s σ H Q I h=>LC _ s σ H Q I (by
 obtain⟨B,ρ,o,M,r,e,q⟩:=h;cases e
 exact q H (.refl H))
def Mv (h:JE X e f):JO X (some e) (qc f):=λaf s σ H Q I q=>LF h _ s σ H Q I (by
 obtain⟨B,ρ,o,M,r,e,q⟩:=q;unfold qc at e;split at e
 .rename_i i b' O;cases e
  refine⟨B,ρ,_,_,M,r,O,λv U N1 c i1 _=>?_⟩;cases i1
  exact⟨i,rr,q U c.hh⟩
 simp_all)
def pi (ds:LD)(lo hi:OI):LD:=(ds.drop (HT.de ds.length 0 lo)).take (HT.de ds.length ds.length hi - HT.de ds.length 0 lo)
def wj {K:Frag}{H:Hp}{vs:LV}{ds:LD}{lo hi:OI}(h:IsL K H vs ds):IsL K H (sY vs lo hi) (pi ds lo hi):=by
 unfold sY pi;rw[h.length];exact(h.drop _).take _
def bg.to (h:bg X f r)(k:∀xs H Q,M xs H Q->r xs H Q):bg X f M:=λaf s σ H xs us Q I rs q=>h _ s σ H xs us Q I rs (k xs H Q q)
variable {es:QD}{x:Str}{p:Pos}{id T:String}
def G3 (hc:bg X (.builtin id) (xA X.K f))(hm:X.mg x=none)(hv:bootBuiltins x=some (.builtin id))(ha:JA X (e::es) fa)(U:Gl X x)(hn:x ≠ "__name__")(M:(x == ("__debug__" : Str))=false)
  (he:starEach (e::es) X.env=(false,eval e X.env)::starEach es X.env) (O:(backTo pos (starEach es X.env)).any (·.1)=false):JE X (.Call (.Name x p) (e::es) [] pos) (fA f fa):=PE.to (pP hc U hm hv ha hn M he O) λ_ _ _ h=>LZ h
def Eh (hc:bg X (.type T) (xA X.K f))(hm:X.mg x=none)(hv:bootBuiltins x=some (.type T))(ha:JA X (e::es) fa)(U:Gl X x)(hn:x ≠ "__name__")(M:(x == ("__debug__" : Str))=false)
  (he:starEach (e::es) X.env=(false,eval e X.env)::starEach es X.env) (O:(backTo pos (starEach es X.env)).any (·.1)=false):JE X (.Call (.Name x p) (e::es) [] pos) (fA f fa):=PE.to (mV hc U hm hv ha hn M he O) λ_ _ _ h=>LZ h
@[simp] noncomputable def lh:LD->OB
 |[.lst ds]=>some (.int ds.length,false)
 |[.tup ds]=>some (.int ds.length,false)
 |[.str z]=>if z.length<=sizeLine then some (.int z.length,false)else none
 |_=>none
def UC:bg X (.builtin "len") (xA X.K lh):=by
 refine bg.to (bg.or vt vv) λxs H Q q=>?_;obtain⟨B,ds,d,b,M,i,e,q⟩:=q;cases i with
 |nil=>simp at e
 |cons i1 i2=>
  cases i2 with
  |cons _ _=>cases i1<;>simp at e
  |nil=>
   cases i1<;>try (simp at e;done)
   .simp only[lh]at e;split at e
    .rename_i hz;cases e
     exact .inr ⟨_,rr,hz,q.one M (.int _)⟩
    simp_all
   .rename_i h hl;cases e
    refine .inl ⟨_,_,rr,.inr (aV M h),?_⟩;rw[hl.length];exact q.one M (.int _)
   .rename_i h hl;cases e
    refine .inl ⟨_,_,rr,.inl (M.seq h),?_⟩;rw[hl.length];exact q.one M (.int _)
def UD (hm:X.mg x=none)(hv:bootBuiltins x=some (.type n))(M:Gl X x)(hn:x ≠ "__name__")(hd:(x == ("__debug__" : Str))=false):JE X (.Name x pos) (fC (.ty n)):=
 PE.to (Lx M hm hv (v:=.ty n) rr hn hd) λ_ _ _ h=>Eg (λ_=>.ty n) h
end
def kJ (M:dq k A):A.units+40<cLine:=by have:=M.un;lia
section
variable {X:Cx}{a b e:Expr}{pos:Pos}{x:Str}{p:Pos}
def G4 (h:∃u v,X.mg x=some u/\aF v u/\∀B,Is X.K B v d)(M:Gl X x)(hd:(x == ("__debug__" : Str))=false):JE X (.Name x pos) (fC d):=by
 obtain⟨u,v,hm,r,i⟩:=h;exact Mj M hm r i hd
@[simp] noncomputable def UE:D->D->OB
 |.int i,.int j=>some (.int (i+j),false)
 |.str i,.str j=>if i.length+j.length<=sizeLine then some (.str (i++j),false)else none
 |_,_=>none
def Mw:cB X (binaryOp .Add) (rD X.K UE):=by
 refine iG (pZ U2 QE) λx y H Q q=>?_;obtain⟨B,dx,M,d,b,O,U,c,e,q⟩:=q;refine⟨B,dx,M,d,b,O,U,c,?_,q⟩;cases dx<;>try (cases e)
 all_goals (cases M<;>try (done))
 all_goals simp_all[U0]
@[simp] def yf:D->D->OB:=U1
def QL:cB X (binaryOp .Mult) (rD X.K yf):=U4
@[simp] def WK:D->D->OB:=ZI
def UF:cB X (compareOp .Lt) (rD X.K WK):=XC
@[simp] noncomputable def OH:D->D->OB
 |.int i,.int j=>some (.bl (decide (i<=j)),false)
 |.str i,.str j=>some (.bl (!decide (j.cps.toList<i.cps.toList)),false)
 |_,_=>none
def UG:cB X (compareOp .LtE) (rD X.K OH):=by
 refine iG (pZ XD U8) λx y H Q q=>?_;obtain⟨B,dx,M,d,b,O,U,c,e,q⟩:=q;refine⟨B,dx,M,d,b,O,U,c,?_,q⟩;cases dx<;>try (cases e)
 all_goals (cases M<;>try (done))
 all_goals simp_all[U0]
@[simp] noncomputable def Mx:D->OB
 |.int i=>some (.int (-i),false)
 |_=>none
def UH:TL X (unaryOp .USub) (X6 X.K Mx):=by
 intro af s σ H x v Q I M q;obtain⟨B,dx,d,b,O,U,e,q⟩:=q;cases U<;>try (simp at e;done)
 cases e
 exact Qc _ s σ H _ v Q I M ⟨_,rr,q.one O (.int _)⟩
@[simp] noncomputable def Ei:D->D->Option Bool
 |x,.non=>some (match x with|.non=>true|_=>false)
 |x,.bl b=>some (match x with|.bl a=>a == b|_=>false)
 |_,_=>none
@[simp] def SW:D->D->OB:=λx y=>(Ei x y).map λb=>(.bl b,false)
@[simp] def qd:D->D->OB:=λx y=>(Ei x y).map λb=>(.bl (!b),false)
def Cc {K:Frag}{B:Hp}{x y:V}{v u:Value}{dx M:D}{k:Bool}(U:Is K B x dx)(f:Is K B y M)(O:aF x v)(g:aF y u)(e:Ei dx M=some k):plainIs v u=true/\(v == u)=k:=by
 cases f<;>(first|(cases e;done)|skip)
 all_goals (cases U)
 all_goals (first|(obtain⟨t,rfl⟩:=O)|cases O)
 all_goals (cases g)
 all_goals (cases e)
 all_goals (first|exact⟨rr,rr⟩|skip)
 all_goals (rename_i c d;cases c<;>cases d<;>exact⟨rr,rr⟩)
def XO:cB X (compareOp .Is) (rD X.K SW):=by
 intro af s σ H x y v u Q I M O q;obtain⟨B,dx,g,d,b,U,c,f,e,q⟩:=q;obtain⟨k,ek,e⟩:=oY e;cases e
 obtain⟨h1,h2⟩:=Cc c f M O ek;refine wpAny_is_plain h1 ⟨.bl k,H,I,by rw[h2];rfl,q.one U (.bl _)⟩
def My:cB X (compareOp .IsNot) (rD X.K qd):=by
 intro af s σ H x y v u Q I M O q;obtain⟨B,dx,g,d,b,U,c,f,e,q⟩:=q;obtain⟨k,ek,e⟩:=oY e;cases e
 obtain⟨h1,h2⟩:=Cc c f M O ek;refine wpAny_isNot_plain h1 ⟨.bl _,H,I,by rw[h2];rfl,q.one U (.bl _)⟩
@[simp] noncomputable def fY:D->Bool
 |.non=>true|.bl _=>true|.int _=>true|.str _=>true
 |_=>false
noncomputable def FC (x:D)(ds:LD):Bool:=ds.any λy=>dm y x
@[simp] noncomputable def fm:D->Option LD
 |.lst ds=>some ds
 |.tup ds=>some ds
 |_=>none
@[simp] def A9:D->D->OB:=λx y=>(fm y).bind λds=>if fY x=true/\ds.all fY=true then some (.bl (FC x ds),false)else none
@[simp] def dE:D->D->OB:=λx y=>(fm y).bind λds=>if fY x=true/\ds.all fY=true then some (.bl (!FC x ds),false)else none
def qe {K:Frag}{B:Hp}{v:V}{d:D}(i:Is K B v d)(h:fY d=true):kL v=true:=by
 cases i<;>first|rfl|(simp at h)
def XQ {K:Frag}{B:Hp}{v w:V}{d e:D}(i:Is K B v d)(j:Is K B w e)(h:fY d=true)(h':fY e=true):LO v w=dm d e:=by
 cases i<;>(first|(simp at h)|skip)
 all_goals (cases j<;>(first|(done)|skip))
 all_goals rfl
theorem yg {K:Frag}{B:Hp}:∀ {vs:LV}{ds:LD},IsL K B vs ds->ds.all fY=true->vs.all kL=true
 |_,_,.nil,_=>rr
 |_,_,.cons i t,h=>by
  rw[all_cons,vC]at h;rw[all_cons,qe i h.1,yg t h.2];rfl
theorem G5 {K:Frag}{B:Hp}{v:V}{d:D}(j:Is K B v d)(hd:fY d=true):∀ {vs:LV}{ds:LD},IsL K B vs ds->ds.all fY=true->WI v vs=FC d ds
 |_,_,.nil,_=>rr
 |_,_,.cons i t,h=>by
  rw[all_cons,vC]at h;have e:=G5 j hd t h.2;unfold WI FC at *;rw[any_cons,any_cons,e,XQ i j h.1 hd]
def UI:cB X (compareOp .In) (rD X.K A9):=by
 refine iG DX λx y H Q q=>?_;obtain⟨B,dx,c,d,b,M,O,U,e,q⟩:=q;obtain⟨ds,es,e⟩:=oX e;split at e
 .rename_i hf;cases e
  cases U<;>simp [fm]at es<;>try (cases es;done)
  .rename_i h hl;cases es
   exact⟨_,_,rr,.inr (aV M h),qe O hf.1,yg hl hf.2,by rw[G5 O hf.1 hl hf.2];exact q.one M (.bl _)⟩
  .rename_i h hl;cases es
   exact⟨_,_,rr,.inl (M.seq h),qe O hf.1,yg hl hf.2,by rw[G5 O hf.1 hl hf.2];exact q.one M (.bl _)⟩
 simp_all
def G6:cB X (compareOp .NotIn) (rD X.K dE):=by
 refine iG vq λx y H Q q=>?_;obtain⟨B,dx,c,d,b,M,O,U,e,q⟩:=q;obtain⟨ds,es,e⟩:=oX e;split at e
 .rename_i hf;cases e
  cases U<;>simp [fm]at es<;>try (cases es;done)
  .rename_i h hl;cases es
   exact⟨_,_,rr,.inr (aV M h),qe O hf.1,yg hl hf.2,by rw[G5 O hf.1 hl hf.2];exact q.one M (.bl _)⟩
  .rename_i h hl;cases es
   exact⟨_,_,rr,.inl (M.seq h),qe O hf.1,yg hl hf.2,by rw[G5 O hf.1 hl hf.2];exact q.one M (.bl _)⟩
 simp_all
def OJ:bootBuiltins "len" = some (.builtin "len"):=PySem.boot_len
def lY:bootBuiltins "isinstance" = some (.builtin "isinstance"):=I9
def UJ:bootBuiltins "max" = some (.builtin "max"):=I9
def UK:bootBuiltins "min" = some (.builtin "min"):=I9
def UL:bootBuiltins "all" = some (.builtin "all"):=I9
def OK:bootBuiltins "int" = some (.type "int"):=I9
def QM:bootBuiltins "bool" = some (.type "bool"):=I9
def UM:bootBuiltins "str" = some (.type "str"):=I9
def wl:bootBuiltins "list" = some (.type "list"):=I9
def Ce:bootBuiltins "tuple" = some (.type "tuple"):=I9
@[simp] noncomputable def UN:LD->OB
 |[.int i,.int j]=>some (.int (if j > i then j else i),false)
 |_=>none
@[simp] noncomputable def UO:LD->OB
 |[.int i,.int j]=>some (.int (if j<i then j else i),false)
 |_=>none
def yh {K:Frag}{B:Hp}{xs:LV}{i j:Int}(h:IsL K B xs [.int i,.int j]):xs=[.int i,.int j]:=by
 cases h with
 |cons h1 h2=>cases h1;cases h2 with|cons h3 h4=>cases h3;cases h4;rfl
def UP (hc:X.calm=true):bg X (.builtin "max") (xA X.K UN):=by
 refine bg.to (DS hc) λxs H Q q=>?_;obtain⟨B,ds,d,b,M,i,e,q⟩:=q;match ds,e with
 |[.int O,.int U],e=>cases e;exact⟨O,U,yh i,q.one M (.int _)⟩
def UQ (hc:X.calm=true):bg X (.builtin "min") (xA X.K UO):=by
 refine bg.to (DT hc) λxs H Q q=>?_;obtain⟨B,ds,d,b,M,i,e,q⟩:=q;match ds,e with
 |[.int O,.int U],e=>cases e;exact⟨O,U,yh i,q.one M (.int _)⟩
@[simp] noncomputable def gO:D->String
 |.non=>"NoneType" | .bl _=>"bool" | .int _=>"int" | .str _=>"str" | .ty _=>"type" | .tup _=>"tuple" | .lst _=>"list" | .dk _ _=>"dict" | .dt _ _=>"dict"
@[simp] noncomputable def Ej:D->Bool
 |.ty _=>true
 |_=>false
@[simp] noncomputable def Cf (t n:String):OB:=
 if n = "int" then some (.bl (t == "int" || t == "bool"),false)else if n = "bool" then some (.bl (t == "bool"),false)else if n = "str" then some (.bl (t == "str"),false)
 else if n = "list" then some (.bl (t == "list"),false)else if n = "tuple" then some (.bl (t == "tuple"),false)else none
@[simp] def jw:LD->OB
 |[d,.ty n]=>if Ej d=true then none else Cf (gO d) n
 |_=>none
def Mz {af:AO}{σ:St}{H:Hp}{s:Shared}{A:Around}{E:QV}{Q:QV}{c:Value}{b:Bool}{v:V}{d:D}{u:Value}(I:Inv X af σ H s)(i:Is X.K H v d)(hd:∀n,d≠.ty n)(M:aF v u)(e:PySem.W.kitOne X.K (.type (gO d)) c=some b)(h:∀tk,Q (.bool b) { s with toks:=tk }):
  wpAny (model X.prog X.w) A (call (.builtin "isinstance") [u,c]) Q E s:=by
 cases i with
 |non=>exact fJ I M .non e h
 |bl y=>exact fJ I M (.bl y) e h
 |int y=>exact fJ I M (.int y) e h
 |str y=>exact fJ I M (.str y) e h
 |ty n=>exact absurd rr (hd n)
 |dk h1 _ _=>exact fJ I M (.dK h1) e h
 |dt h1 _ _=>exact fJ I M (.dT h1) e h
 |tup O _=>
  cases M
  obtain⟨its,_,⟨o,h1,h2,_⟩,_⟩:=I.tuple O;exact kia_one PySem.W.kitx_tuple I.kIn ⟨o,h1,h2⟩ e (λz=>nomatch z) h
 |lst hl _=>
  cases M
  obtain⟨its,_,⟨o,n,h1,h2,_⟩,_⟩:=I.list hl;exact kia_one PySem.W.kitx_list I.kIn ⟨o,h1,h2⟩ e (λz=>nomatch z) h
def G7 (K:Frag)(d:D)(hd:∀n,d≠.ty n):
  PySem.W.kitOne K (.type (gO d)) (.type "int")=some (gO d == "int" || gO d == "bool")/\PySem.W.kitOne K (.type (gO d)) (.type "bool")=some (gO d == "bool")/\PySem.W.kitOne K (.type (gO d)) (.type "str")=some (gO d == "str") /\
   PySem.W.kitOne K (.type (gO d)) (.type "list")=some (gO d == "list")/\PySem.W.kitOne K (.type (gO d)) (.type "tuple")=some (gO d == "tuple"):=by
 cases d<;>(first|exact absurd _ _|skip)
 all_goals (refine⟨?_,?_,?_,?_,?_⟩<;>kernel_rfl)
def wm:bg X (.builtin "isinstance") (xA X.K jw):=by
 intro af s σ H xs us Q I rs q;obtain⟨B,ds,d,b,M,i,e,q⟩:=q;cases i with
 |nil=>cases e
 |cons i1 i=>cases i with
 |nil=>cases e
 |cons i2 i=>
  cases i2<;>try (cases e)
  cases i<;>try (cases e)
  rename_i dx n;obtain⟨f,g,rfl,O,U⟩:=BN rs;cases U
  simp only[jw]at e;split at e
  .cases e
  .rename_i c;have hd:∀n,dx≠.ty n:=λn z=>by subst z;exact c rr
   obtain⟨k1,k2,k3,k4,k5⟩:=G7 X.K dx hd;have dI:∀ {k:Bool},PySem.W.kitOne _ _ (.type n)=some k->Fin X.K B H _ _ Q->wpAny _ X.A _ (EP X _ σ Q) X.xe s:=λ{k} hk q=>
    Mz I (i1.mono M) hd O hk λtk=>⟨.bl k,H,I.tok tk,rr,q.one M (.bl k)⟩
   unfold Cf at e;grind
@[simp] def G8 (f:FE):FA:=λρ=>(f ρ).bind λx=>fm x.1
def Cg (h:JE X e f):JI X tg e (G8 f):=by
 intro af s σ H R I q;obtain⟨B,ρ,ds,g,r,j,q⟩:=q;obtain⟨x,ex,es⟩:=oX j;obtain⟨xd,l⟩:=x;cases xd<;>simp [fm]at es<;>try (cases es;done)
 .cases es
  refine PN h _ s σ H R I ⟨B,ρ,_,_,g,r,ex,λv c N1 U i1 _=>?_⟩;cases i1 with
  |@tup a vs _ O hl=>
   refine⟨a,rr,⟨vs,aV U.nh O⟩,q _ c N1 U λi H2 s2=>⟨λd ed=>?_,λM=>⟨vs,aV s2 O,by rw[hl.length];exact M⟩⟩⟩;obtain⟨v,ev,iv⟩:=hl.get ed;refine⟨⟨vs,v,aV s2 O,ev⟩,λy k hy=>?_⟩;obtain⟨rfl,hy⟩:=hy;have:=hy vs (aV s2 O);rw[ev]at this;cases this;exact⟨N1,.refl s2,iv⟩
 .cases es
  refine L1 h _ s σ H R I ⟨B,ρ,_,_,g,r,ex,λv c N1 U i1 _=>?_⟩;cases i1 with
  |@lst a vs _ O hl=>
   refine⟨a,rr,⟨vs,U.nh.seq O⟩,q _ c N1 U λi H2 s2=>⟨λd ed=>?_,λM=>⟨vs,s2.seq O,by rw[hl.length];exact M⟩⟩⟩;obtain⟨v,ev,iv⟩:=hl.get ed;refine⟨⟨vs,v,s2.seq O,ev⟩,λy k hy=>?_⟩;obtain⟨rfl,hy⟩:=hy;have:=hy vs (s2.seq O);rw[ev]at this;cases this;exact⟨N1,.refl s2,iv⟩
noncomputable def fZ (lo:Int)(n:Nat):LD:=(List.range n).map λ(k:Nat)=>.int (lo+(k:Int))
def G9 {K:Frag}{B:Hp}(lo:Int)(n:Nat):lU K (WG lo n) B (fZ lo n):=by
 intro i H s;unfold fZ;refine⟨λd ed=>?_,λhl=>by rw[vI,length_range]at hl;exact hl⟩;rw[vA]at ed;obtain⟨k,ek,ed⟩:=oY ed;have hk:=vV ek;obtain⟨M,hk⟩:=hk;rw[length_range]at M;rw[List.getElem_range]at hk;subst hk;subst ed;refine⟨M,λx H' hy=>?_⟩;obtain⟨rfl,rfl⟩:=hy;exact⟨B,.refl s,.int _⟩
@[simp] def iJ (f:FE):FA:=λρ=>match f ρ with
 |some (.int j,_)=>if -1000<=j/\j<=1000 then some (fZ 0 j.toNat)else none
 |_=>none
def yi (hm:X.mg "range" = none)(h:JE X a f)(O:Gl X "range":=by rfl)(hs:starEach [a] X.env=[(false,eval a X.env)]:=by rfl):PI X tg (.Call (.Name "range" p) [a] [] pos) (Ut X.K (iJ f)):=by
 refine PI.to (DP O hm (gG h ng hs) hs) λσ H R q=>?_;obtain⟨B,ρ,ds,U,r,M,q⟩:=q;unfold iJ at M;split at M
 .rename_i j b' c;split at M
  .cases M
   refine⟨B,ρ,[.int j],U,r,by simp[c],λvs d N1 g i1=>?_⟩;cases i1 with
   |cons i1 i2=>
    cases i1;cases i2
    exact⟨j,rr,N9,N9,q _ d N1 g λ_=>G9 0 _⟩
  simp_all
 simp_all
def GA (hm:X.mg "range" = none)(h:JE X a f)(M:Gl X "range")(hs:starEach [a] X.env=[(false,eval a X.env)]):JI X tg (.Call (.Name "range" p) [a] [] pos) (iJ f):=
 PI.to (yi hm h M hs) λσ H R ⟨B,ρ,ds,O,r,U,q⟩=>⟨B,ρ,ds,O,r,U,λJ H' N x h=>q J H' N x (h _)⟩
end
def bQ (K:Frag)(x:Str)(st:Stmt):Prop:=∃(f:Addr)(fd:FuncData),Ss K x x st f fd/\nsIn K mainGlobals x=some (some (.ref f))
def def_mk {K:Frag}{x:Str}{st:Stmt}{f:Addr}{oc:Value}{od an:Option Addr}{mS:Array (Option Value)}{kV doc pm dA ct:Value}(a:nsIn K mainGlobals x=some (some (.ref f)))
  (l:K.lookup f=some ⟨oc,od,.func (fnOf x x (eU st) (bF st) (aC st) .none kV doc pm an dA ct),mS⟩) (c:PySem.W.codeIn K dA x=true) (k:PySem.W.keepIn K (.ref f)=true):bQ K x st:=⟨f,_,Qj l c k,a⟩
section
variable {P:Program}{w:World}{K:Frag}{mg:SV}{base:Heap}
end
def UR (H:Hp):Prop:=∀b,H b=none\/(∃o xs,H b=some (.frz o (.lst xs)))\/∃q,H b=some (.tbl q)
noncomputable def qg (M:List (Addr×Str))(G:Hp):Hp:=λb=>match M.lookup b with|some q=>some (.tbl q)|none=>G b
def fq (e:M.lookup b=some q):qg M G b=some (.tbl q):=by unfold qg;rw[e]
def hJ (e:M.lookup b=none):qg M G b=G b:=by unfold qg;rw[e]
def Ek {P:Program}{w:World}{K:Frag}{mg mb:SV}{k:Nat}{fa a:Addr}{fd:FuncData}{x:Str}{sp:Sp}{M:Shared}{vs:LU}{ns:LI}(O:List (Addr×Str))
  (L:∀b q,O.lookup b=some q->M.heap.get? b=some (PySem.W.tabObj #[])/\isCodeTable M.heap b) (t:PySem.W.noTabs K=true)
  (y:K.In M.heap) (C:M.heap.Ns mainGlobals mg) (hb:M.heap.Ns builtinsNs mb) (A:∀x:Str,x ≠ "__name__"->mb x=bootBuiltins x) (N:M.heap.NoLimit)
  (Q:∃bm ob,mg "__builtins__" = some (.ref bm)/\bm≠builtinsNs/\M.heap.get? bm=some ob/\ob.cls=.type "module"/\ob.dict=some builtinsNs/\ob.data=.plain) (R:M.gens=#[])
  (ha:M.heap.get? a=some { cls:=.type "list",data:=.seq vs.toArray }) (hi:IntsAre vs ns) (hl:ns.length<=sizeLine) (S:dq k callerA)
  (F:∀base:Heap,K.In base->base.Ns mainGlobals mg->mO P w K mg base xK k fa fd [x] sp) (T:∀(s:Shared)(u:Value),BindsTo s fd ⟨[u],[]⟩ [(x,u)])
  (X:∀H:Hp,(∀b q,O.lookup b=some q->H b=some (.tbl q))->fD K H a (ns.map V.int)->sp [.ref a] H (λv _=>v=.bl true) λ_ _ _=>False):
  codeAny (model P w) callerA (.call (.ref fa) ⟨[.ref a],[]⟩) (λr s'=>r=.ok (.ret (.bool true))/\OldK M.heap s'.heap/\s'.os=M.os/\AllBare s'.gens) M:=by
 have D:=L2.eE hi;have Y:=hi.length;have E:∀H:Hp,UR H->(∀b q,O.lookup b=some q->H b=some (.tbl q))->fD K H a (ns.map V.int)->kI P w H M.heap->(∀b q,H b=some (.tbl q)->M.heap.get? b=some (PySem.W.tabObj #[])/\isCodeTable M.heap b) ->
   (∀b o u,H b=some (.frz o u)->b=a)->(∀b o u,H b=some (.frz o u)->K.lookup b=none) ->
   codeAny (model P w) callerA (.call (.ref fa) ⟨[.ref a],[]⟩) (λr s'=>r=.ok (.ret (.bool true))/\OldK M.heap s'.heap/\s'.os=M.os/\AllBare s'.gens) M:=by
  intro H j Z hS hok I hB hK;have noA:∀ {b:Addr}{o:Obj},M.heap.get? b=some o->(o.cls≠.none)->(o.cls≠.type "list")->H b=none:=λ{b o} e d d'=>by
   rcases j b with q|⟨ob,xs,q⟩|⟨u,q⟩
   .exact q
   .grind
   simp_all<;>lia
  have B:∀ {b:Addr}{o:Obj}{es:Array DictEntry}{l:Nat},M.heap.get? b=some o->o.data=.dict es l->H b=none:=λ{b o es l} e d=>by
   rcases j b with q|⟨ob,xs,q⟩|⟨u,q⟩
   .exact q
   .grind
   grind
  have p:∀ {b:Addr}{m:SV},M.heap.Ns b m->(xF M.heap H).Ns b m:=λ{b m} ⟨o,es,l,e,d,r⟩=>⟨o,es,l,pL e (B e d),d,r⟩;have f:K.In (xF M.heap H):=λb o e=>pL (y b o e) (by
   rcases j b with q|⟨ob,xs,q⟩|⟨u,q⟩
   .exact q
   .rw[hK b _ _ q]at e;cases e
   .have z:=(I b u q).1;rw[y b o e]at z;cases z
    have:=all_eq_true.mp t _ (PySem.W.mem_of_lookupK e);simp at this)
  have hM:Mod K mg (xF M.heap H):=⟨f,p C,⟨mb,p hb,A⟩,let ⟨mc,h1,h2⟩:=N;⟨mc,p h1,h2⟩,by
   grind[pL]⟩
  have e0:Env0 P w K mg (xF M.heap H) callerA [] M H:=⟨rr,hM,λb o e=>Lu e,le_of_eq (DM _ _),trivial,λb hb=>absurd (show b∈([]:List Addr)from hb) H9,hok,.of_eq R⟩;refine codeAny_mono ((F _ f (p C)).run callerA [] M H ⟨[.ref a],[]⟩ [.ref a] [.ref a] _ _ S e0 (T M (.ref a)) (.cons rr .nil) (X H Z hS)) λr s' h=>?_;cases r with
  |error e=>exact False.elim h
  |ok fl=>
   cases fl with
   |next=>exact False.elim h
   |brk=>exact False.elim h
   |cont=>exact False.elim h
   |ret u=>
    obtain⟨v,H',os,bare,un,J,r',q⟩:=h;have g:v=.bl true:=q;subst g;obtain rfl:u=Value.bool true:=r';have kp:=λb o n e=>un.keep b o e n (by intro z;exact absurd (show b∈([]:List Addr)from z) H9) H9;refine⟨rr,⟨λb o e=>?_,λb o e=>un.there b o e H9⟩,os,bare⟩;rcases j b with z|⟨ob,xs,z⟩|⟨u,z⟩
    .exact .inl (kp b o z e)
    .have z2:=un.frzs b ob _ z;obtain⟨i,_⟩:=hok b _ z;obtain⟨e2,_⟩:=J b _ z2;rw[e]at i;cases i;exact .inl e2
    .obtain⟨i,e2⟩:=I b u z;rw[e]at i;cases i;obtain⟨ps,e3,_⟩:=J b _ (un.tbls b u z);exact .inr (.inl ⟨e2,rr,#[],ps,rr,by simpa using e3⟩)
 have Sw:∀q,O.lookup a≠some q:=λq z=>by
  simp_all
 have ta:O.lookup a=none:=by
  cases z:O.lookup a with
  |none=>rfl
  |some q=>exact absurd z (Sw q)
 have aan:∀(G:Hp) b q,O.lookup b=some q->bf P w (qg O G) M.heap b (.tbl q):=λG b q z=>⟨#[],(L b q z).1,trivial,λpos cv c=>by cases c⟩;cases hk:K.lookup a with
 |some o=>
  have e:=y a o hk;rw[ha]at e;cases e
  refine E (qg O λ_=>none) (λb=>?_) (λb q z=>fq z) (.inr ⟨_,vs.toArray,_,hk,rr,rr,rr,by simp_all,by simpa using D⟩) (λb u z=>?_) (λb q z=>?_) (λb o u z=>?_) λb o u z=>?_
  all_goals cases U:O.lookup b with
   |none=>first|exact .inl (hJ U)|(rw[hJ U]at z;cases z)
   |some g=>first|exact .inr (.inr ⟨g,fq U⟩)|(rw[fq U]at z;cases z;done)|(rw[fq U]at z;grind)
 |none=>
  refine E (qg O λb=>if b=a then some _ else none) (λb=>?_) (λb q z=>fq z) (.inl (.inr ⟨{ cls:=.type "list",data:=.seq vs.toArray },by rw[hJ ta,if_pos rr]⟩)) (λb u z=>?_) (λb q z=>?_) (λb o u z=>?_) λb o u z=>?_
  all_goals cases U:O.lookup b with
   |some g=>first|exact .inr (.inr ⟨g,fq U⟩)|(rw[fq U]at z;cases z;done)|(rw[fq U]at z;grind)
   |none=>
    first
    |rw[hJ U]at z
    |rw[hJ U]
    by_cases hb:b=a
    .first
     |rw[if_pos hb]at z
     |rw[if_pos hb]
     first
     |exact .inr (.inl ⟨_,_,rr⟩)
     | (cases z;subst hb;exact⟨ha,by rw[vI];exact hl,vs,_,D,ha⟩)
     |exact hb
     | (rw[hb];exact hk)
     |cases z
    .simp_all
noncomputable def wn (L:List (Str×Option (Addr×Addr))):List (Addr×Str):=L.filterMap λp=>p.2.map λq=>(q.2,tm p.1)
structure pK (K:Frag)(L:List (Str×Option (Addr×Addr))):Prop where
 names:L=jr.map λx=>(x,PySem.W.tabIn K x)
 apart:((wn L).map (·.1)).Nodup
 none:PySem.W.noTabs K=true
theorem kM {α M:Type}[BEq α][LawfulBEq α]:∀ {l:List (α×M)}{a:α}{b:M},(l.map (·.1)).Nodup->(a,b)∈l->l.lookup a=some b
 | (c,d)::l,a,b,nd,h=>by
  rw[lookup_cons];rcases vP h with e|h
  .cases e;simp
  .have ne:a≠c:=λz=>(nodup_cons.mp nd).1 (by grind);rw[show(a == c)=false by simpa using ne];exact kM (nodup_cons.mp nd).2 h
theorem jx {α M:Type}[BEq α][LawfulBEq α]:∀ {l:List (α×M)}{a:α}{b:M},l.lookup a=some b->(a,b)∈l
 | (c,d)::l,a,b,h=>by
  rw[lookup_cons]at h;cases e:a == c with
  |true=>simp_all
  |false=>rw[e]at h;exact mZ _ (jx h)
def pK.tb {K:Frag}{L:List (Str×Option (Addr×Addr))}(F:pK K L){H:Hp}(h:∀b q,(wn L).lookup b=some q->H b=some (.tbl q)):Tb K H:=λx hx c P e=>by
 refine h P _ (kM F.apart ?_);rw[F.names];exact mem_filterMap.mpr ⟨(x,PySem.W.tabIn K x),uS ⟨x,hx,rr⟩,by rw[e];rfl⟩
def tab_no {K:Frag}{x:Str}(e:nsIn K mainGlobals x=some none):PySem.W.tabIn K x=none:=by unfold PySem.W.tabIn;rw[e]
def tab_yes {K:Frag}{x:Str}{f c P:Addr}{oc O:Value}{od U:Option Addr}{mS M:Array (Option Value)}{fd:FuncData}{vs:AV}(a:nsIn K mainGlobals x=some (some (.ref f)))(e2:K.lookup f=some ⟨oc,od,.func fd,mS⟩)(b:fd.code=.ref c)
  (d:K.lookup c=some ⟨O,U,.fields vs,M⟩) (e:vs[11]? = some (.ref P)):PySem.W.tabIn K x=some (c,P):=by simp_all[PySem.W.tabIn]
def tabs_fit {K:Frag}{M O U a b:Option (Addr×Addr)}(h0:PySem.W.tabIn K "in_order" = M)(h1:PySem.W.tabIn K "has_seal" = O)(h2:PySem.W.tabIn K "is_first_death" = U)(h3:PySem.W.tabIn K "bases_by" = a)(h4:PySem.W.tabIn K "as_heard" = b)
  (ap:((wn [("in_order",M),("has_seal",O),("is_first_death",U),("bases_by",a),("as_heard",b)]).map (·.1)).Nodup) (nt:PySem.W.noTabs K=true):pK K [("in_order",M),("has_seal",O),("is_first_death",U),("bases_by",a),("as_heard",b)]:=
 ⟨by subst h0;subst h1;subst h2;subst h3;subst h4;rfl,ap,nt⟩
def bQ.law {P:Program}{w:World}{K:Frag}{mg:SV}{x y:Str}{st:Stmt}{N:LS}{k:Nat}{g:FS}{h:Heap}{fa:Addr}(F:bQ K x st)(X:K.In h)(G:h.Ns mainGlobals mg)(M:mg x=some (.ref fa))(S:FnScope N [y] (aC st))
  (O:∀(kV doc pm:Value)(an:Option Addr)(dA ct:Value)(u:Value),bindArgs (fnOf x x (eU st) (bF st) (aC st) .none kV doc pm an dA ct) ⟨[u],[]⟩=pure [(y,u)])
  (hb:∀(base:Heap),K.In base->base.Ns mainGlobals mg->∀(f:Addr)(dA:Value)(A:Around)(outer:List PySem.Env)(s:Shared)(H:Hp)(E:XK),dq k (A.deeper (envOfC x (aC st) s.z f dA))->xB (pf xK P w K mg base N x (aC st) f dA A outer s H E).nox (bF st) g):
  ∃fd:FuncData,(∀(s:Shared)(u:Value),BindsTo s fd ⟨[u],[]⟩ [(y,u)])/\∀base:Heap,K.In base->base.Ns mainGlobals mg->mO P w K mg base xK (k+1) fa fd [y] (Li K (ax g 1 (N.length - 1))):=by
 obtain⟨f,fd,U,a⟩:=F;have e:=M.symm.trans (mg_of X G a);cases e
 refine⟨fd,λs u=>?_,λbase b c=>UA U S (hb _ b c _)⟩;obtain⟨oc,od,kV,doc,pm,an,dA,ct,mS,rfl,d,i⟩:=U.ex;exact .of_eq (O kV _ pm an _ ct u)
section
variable {X:Cx}{a b e:Expr}{pos:Pos}{x:Str}{p:Pos}
@[simp] noncomputable def US:D->D->OB
 |.lst xs,.lst ys=>if xs.length+ys.length<=sizeLine then some (.lst (xs++ys),true)else none
 |_,_=>none
def QN:cB X (binaryOp .Add) (rD X.K US):=by
 intro af s σ H x y v u Q I n r q;obtain⟨B,dx,E,d,bb,c,t,w,U,q⟩:=q;cases t<;>try (cases U;done)
 all_goals (cases w<;>try (cases U;done))
 rename_i l vs ds h hl z ws es h' O;simp only[US]at U;split at U
 .rename_i hz;cases U
  cases n
  cases r
  obtain⟨its,f,A,G⟩:=I.list (c.seq h);obtain⟨M,g,p2,J⟩:=I.list (c.seq h');obtain⟨⟨L,d1,N,s1⟩,i,C,n1,k1⟩:=A.isList;obtain⟨⟨c2,d2,P,s2⟩,j,e2,n2,k2⟩:=p2.isList;subst C;subst k1;subst e2;subst k2;have hsz:its.toArray.size+M.toArray.size<=sizeLine:=by
   rw[vH,vH,<-f.length,<-g.length,hl.length,O.length];exact hz
  have D:its.toArray++M.toArray=(its++M).toArray:=H9
  refine concat_meets ⟨_,i,rr⟩ ⟨_,j,rr⟩ noFill_list_add seq_list_add PySem.F.slot_list_add PySem.F.entry_list_add (PySem.F.args_list_add_2 _ _) (list_addW l z its.toArray M.toArray n1 n2 d1 d2 s1 s2 hsz) ⟨i,j,?_⟩;rw[D];have k:=Ext.laid (o:=.lst (vs++ws)) c I.fresh;have m:=(hl.append O).mono k.bn;exact⟨.ref _,_,I.lnew (f.append g) (by rw[uZ,hl.length,O.length];exact hz),rr,q _ _ _ k (.lst (fD.of au) m) λ_=>⟨_,_,_,rr,rr,I.fresh,au,m⟩⟩
 simp_all
@[simp] noncomputable def UT:D->D->OB
 |.tup xs,.tup ys=>if xs.length+ys.length<=sizeLine/\xs.isEmpty=false then some (.tup (xs++ys),false)else none
 |_,_=>none
def QO:cB X (binaryOp .Add) (rD X.K UT):=by
 refine iG LG λx y H Q q=>?_;obtain⟨B,dx,j,d,bb,U,f,g,O,q⟩:=q;cases f<;>try (cases O)
 all_goals (cases g<;>try (cases O))
 rename_i l vs ds h hl i ws es h' M;simp only[UT]at O;split at O
 .cases O
  have l1:=hl.length;have l2:=M.length;refine⟨l,i,vs,ws,rr,rr,aV U h,aV U h',λz=>?_,N9,λz=>?_,λ_ pp hp=>?_⟩
  .grind
  .subst z;cases M
   rw[uQ]at q;exact q.one U (.tup h hl)
  .have c:=Ext.laid (o:=.tup (vs++ws)) U hp;exact q _ _ _ c (.tup (gF.of au) ((hl.append M).mono c.bn)) H9
 simp_all
@[simp] noncomputable def XR:D->D->OB
 |.bl i,.int j=>some (.int ((if i=true then 1 else 0)+j),false)
 |.int i,.bl j=>some (.int (i+b2i j),false)
 |_,_=>none
def QP:cB X (binaryOp .Add) (rD X.K XR):=by
 intro af s σ H x y v u Q I O U q;obtain⟨B,dx,h,d,bb,c,f,g,M,q⟩:=q;cases f<;>try (cases M)
 all_goals (cases g<;>try (cases M;done))
 .cases M
  cases O
  obtain⟨t,rfl⟩:=U;exact IntBool.add_bool_int ⟨.int _,H,I.tok _,⟨_,rr⟩,q.one c (.int _)⟩
 .cases M
  exact DR _ s σ H _ _ v u Q I O U ⟨_,_,rr,rr,q.one c (.int _)⟩
noncomputable def gP:D->D->OB
 |.int i,.int j=>some (.int (i+j),false)
 |.str i,.str j=>if i.length+j.length<=sizeLine then some (.str (i++j),false)else none
 |.lst xs,.lst ys=>if xs.length+ys.length<=sizeLine then some (.lst (xs++ys),true)else none
 |.tup xs,.tup ys=>if xs.length+ys.length<=sizeLine/\xs.isEmpty=false then some (.tup (xs++ys),false)else none
 |.bl i,.int j=>some (.int ((if i=true then 1 else 0)+j),false)
 |.int i,.bl j=>some (.int (i+b2i j),false)
 |_,_=>none
@[simp] def zz0 (i j:Int):gP (.int i) (.int j)=some (.int (i+j),false):=rfl
@[simp] def zz1 (i j:Str):gP (.str i) (.str j)=if i.length+j.length<=sizeLine then some (.str (i++j),false)else none:=rfl
@[simp] def zz2 (i j:LD):gP (.lst i) (.lst j)=if i.length+j.length<=sizeLine then some (.lst (i++j),true)else none:=rfl
@[simp] def zz3 (i j:LD):gP (.tup i) (.tup j)=if i.length+j.length<=sizeLine/\i.isEmpty=false then some (.tup (i++j),false)else none:=rfl
@[simp] def zz4 (i:Bool)(j:Int):gP (.bl i) (.int j)=some (.int ((if i=true then 1 else 0)+j),false):=rfl
@[simp] def zz5 (i:Int)(j:Bool):gP (.int i) (.bl j)=some (.int (i+b2i j),false):=rfl
def QQ:cB X (binaryOp .Add) (rD X.K gP):=by
 refine iG (pZ Mw (pZ QN (pZ QO QP))) λx y H Q q=>?_;obtain⟨B,dx,M,d,bb,O,U,c,f,q⟩:=q;refine⟨B,dx,M,d,bb,O,U,c,?_,q⟩;cases dx<;>try (cases f)
 all_goals (cases M<;>try (cases f;done))
 all_goals simp_all[U0]
@[simp] noncomputable def XS:D->Option Bool
 |.bl b=>some b
 |_=>none
def wo:LD->Option (List Bool)
 |[]=>some []
 |d::ds=>(XS d).bind λb=>(wo ds).map (b :: ·)
@[simp] def UU:wo []=some []:=rfl
@[simp] def SX (d:D)(ds:LD):wo (d::ds)=(XS d).bind λb=>(wo ds).map (b :: ·):=rfl
theorem wt {K:Frag}{B:Hp}:∀ {vs:LV}{ds:LD}{bs:List Bool}{its:LU},L2.aL vs its->IsL K B vs ds->wo ds=some bs->its=bs.map Value.bool
 |_,_,_,_,.nil,.nil,e=>by cases e;rfl
 |_,_,_,_,.cons r O,.cons i U,e=>by
  obtain⟨b,M,e⟩:=oX e;obtain⟨bs,e2,e⟩:=oY e;subst e;cases i<;>simp [XS]at M<;>try (cases M;done)
  cases M
  cases r
  rw[wt O U e2];rfl
@[simp] def UV:LD->OB
 |[.lst ds]=>(wo ds).map λbs=>(.bl (bs.all id),false)
 |_=>none
@[simp] def QR:LD->OB
 |[.lst ds]=>(wo ds).map λbs=>(.bl (bs.any id),false)
 |_=>none
def UW (hc:X.calm=true):bg X (.builtin "all") (xA X.K UV):=by
 intro af s σ H xs us Q I rs q;obtain⟨B,ds,d,bb,k,i,M,q⟩:=q;cases i with
 |nil=>cases M
 |cons i1 i=>
  cases i with
  |cons _ _=>cases i1<;>cases M
  |nil=>
   cases i1<;>try (cases M;done)
   rename_i l vs es h hl;obtain⟨bs,m,M⟩:=oY M;cases M
   obtain⟨z,rfl,n⟩:=eC rs;cases n
   obtain⟨its,r,f,C⟩:=I.list (k.seq h);have ei:=wt r hl m;have t:l<s.z:=by obtain⟨_,O,_⟩:=f.isList;exact vX O
   refine call_all_walk (wpAny_pyIter_list f.isList ⟨_,_,_,_,_,_,λj=>(bs[j]?).getD true,rr,Walks.list (A:=X.A.in1) (I.ok.hd hc) _ l (vS t) _,⟨⟨_,vY _ rr,rr,rr⟩,f.isList.push _⟩,λj v s' D E u g=>?_,λh' tk hk=>?_⟩)
   .have U:=by simpa using u
    rw[ei,vA]at U;obtain⟨c,w,e2⟩:=oY U;subst e2;dsimp only at g;rw[w]at g;exact wpAny_truthy_bool g
   .have y:((List.range its.toArray.size).all λj=>(bs[j]?).getD true)=bs.all id:=by
     simp_all[LSm.range_all]
    rw[y];refine⟨.bl _,H,I.kept λc o O=>?_,rr,q.one k (.bl _)⟩;exact hk c o (λhm=>by rw[uT hm]at O;exact Nat.lt_irrefl _ (vX O)) (vZ _ O)
def UX (hc:X.calm=true):bg X (.builtin "any") (xA X.K QR):=by
 intro af s σ H xs us Q I rs q;obtain⟨B,ds,d,bb,k,i,M,q⟩:=q;cases i with
 |nil=>cases M
 |cons i1 i=>
  cases i with
  |cons _ _=>cases i1<;>cases M
  |nil=>
   cases i1<;>try (cases M;done)
   rename_i l vs es h hl;obtain⟨bs,m,M⟩:=oY M;cases M
   obtain⟨z,rfl,n⟩:=eC rs;cases n
   obtain⟨its,r,f,C⟩:=I.list (k.seq h);have ei:=wt r hl m;have t:l<s.z:=by obtain⟨_,O,_⟩:=f.isList;exact vX O
   refine call_any_walk (wpAny_pyIter_list f.isList ⟨_,_,_,_,_,_,λj=>(bs[j]?).getD false,rr,Walks.list (A:=X.A.in1) (I.ok.hd hc) _ l (vS t) _,⟨⟨_,vY _ rr,rr,rr⟩,f.isList.push _⟩,λj v s' D E u g=>?_,λh' tk hk=>?_⟩)
   .have U:=by simpa using u
    rw[ei,vA]at U;obtain⟨c,w,e2⟩:=oY U;subst e2;dsimp only at g;rw[w]at g;exact wpAny_truthy_bool g
   .have y:((List.range its.toArray.size).any λj=>(bs[j]?).getD false)=bs.any id:=by
     simp_all[LSm.range_any]
    rw[y];refine⟨.bl _,H,I.kept λc o O=>?_,rr,q.one k (.bl _)⟩;exact hk c o (λhm=>by rw[uT hm]at O;exact Nat.lt_irrefl _ (vX O)) (vZ _ O)
def UY:bootBuiltins "any" = some (.builtin "any"):=I9
end
noncomputable def WL (z:Str):It:=⟨λi _=>i<z.cps.size,λi H v H'=>H'=H/\∃c,z.cps[i]? = some c/\v=.str ⟨#[c]⟩,λi _=>z.cps.size<=i⟩
def yj {P:Program}{w:World}{K:Frag}{tg:Expr}(z:Str)(t:Tok)(it:Addr):Turn P w K tg (WL z) [it] it (λi h=>h.IsStrIter it "str_ascii_iterator" z t i) where
 mem:=mem_singleton.mpr rr
 obj:=λi h st b hb=>by
  have g:=uT hb;obtain⟨o,O,_,d1⟩:=st;simp_all
 keep:=λi h h' st k=>let ⟨o,O,r⟩:=st;⟨o,k it (mem_singleton.mpr rr) o O,r⟩
 item:=by
  intro X j hw l hc i af s σ H E I hf st U;have m:i<z.cps.size:=U;obtain⟨a,f1,f2,d,e,f⟩:=hf it (mem_singleton.mpr rr);refine wpAny_pyNext_ascii_item st (c:=z.cps[i]) (by simp ) λh' M n=>?_;obtain⟨o,O,p,d1⟩:=id M;exact⟨_,rr,pM O p d1 O9 ⟨.str _,H,I.turned (λb o hb e2=>(n.2 b hb).trans e2) a f1 d e f,⟨_,rr⟩,⟨rr,_,by simp ,rr⟩,M,λb hb=>(hf b hb).1⟩⟩
 done:=by
  intro X j hw l hc i af s σ H E I hf st U;have m:z.cps.size<=i:=U;obtain⟨a,f1,f2,d,e,f⟩:=hf it (mem_singleton.mpr rr);exact wpAny_pyNext_ascii_end (I.ok.hd hc) st s9 λh' g=>⟨rr,I.turned (λb o hb e2=>g b o hb e2) a f1 d e f⟩
 self:=λ_ _ _ _ _ st h=>wpAny_pyIter_striter_ascii st h
def yk {P:Program}{w:World}{K:Frag}{tg:Expr}(z:Str)(t:Tok)(it:Addr):Turn P w K tg (WL z) [it] it (λi h=>h.IsStrIter it "str_iterator" z t i) where
 mem:=mem_singleton.mpr rr
 obj:=λi h st b hb=>by
  have g:=uT hb;obtain⟨o,O,_,d1⟩:=st;simp_all
 keep:=λi h h' st k=>let ⟨o,O,r⟩:=st;⟨o,k it (mem_singleton.mpr rr) o O,r⟩
 item:=by
  intro X j hw l hc i af s σ H E I hf st U;have m:i<z.cps.size:=U;obtain⟨a,f1,f2,d,e,f⟩:=hf it (mem_singleton.mpr rr);refine wpAny_pyNext_wide_item st (c:=z.cps[i]) (by simp ) λh' M n=>?_;obtain⟨o,O,p,d1⟩:=id M;exact⟨_,rr,pM O p d1 O9 ⟨.str _,H,I.turned (λb o hb e2=>(n.2 b hb).trans e2) a f1 d e f,⟨_,rr⟩,⟨rr,_,by simp ,rr⟩,M,λb hb=>(hf b hb).1⟩⟩
 done:=by
  intro X j hw l hc i af s σ H E I hf st U;have m:z.cps.size<=i:=U;obtain⟨a,f1,f2,d,e,f⟩:=hf it (mem_singleton.mpr rr);exact wpAny_pyNext_wide_end (I.ok.hd hc) st s9 λh' g=>⟨rr,I.turned (λb o hb e2=>g b o hb e2) a f1 d e f⟩
 self:=λ_ _ _ _ _ st h=>wpAny_pyIter_striter_wide st h
section
variable {X:Cx}{a b e:Expr}{pos:Pos}{x:Str}{p:Pos}{tg:Expr}
def GB {l:Expr}{tl:TE}(hl:PE X l tl):PI X tg l (λσ H R=>tl σ H λx M=>∃z,x=.str z/\R (WL z) M):=by
 intro af s σ H R I h;refine bI (hl _ s σ H _ I h) λv s1 ⟨x,M,O,U,c⟩=>?_;obtain⟨z,rfl,q⟩:=c;obtain⟨t,rfl⟩:=U;have fp:∀b∈[s1.z],lg X _ M b:=λb hb=>by
  rw[uT hb];exact O.fpOk (vT _) (O.hok.fresh (vT _))
 cases ha:z.cps.all _ with
 |true=>exact wpAny_pyIter_ascii ha ⟨_,[s1.z],_,_,M,rr,O.kept λb o e=>vZ _ e,yj z t _,⟨_,vY _ rr,rr,rr⟩,fp,q⟩
 |false=>exact wpAny_pyIter_wide ha ⟨_,[s1.z],_,_,M,rr,O.kept λb o e=>vZ _ e,yk z t _,⟨_,vY _ rr,rr,rr⟩,fp,q⟩
noncomputable def ym (z:Str):LD:=z.cps.toList.map λc=>.str ⟨#[c]⟩
def GC {K:Frag}{B:Hp}(z:Str):lU K (WL z) B (ym z):=by
 intro i H s;refine⟨λd ed=>?_,λhl=>by unfold ym at hl;show z.cps.size<=i;simp_all⟩;unfold ym at ed;rw[vA]at ed;obtain⟨c,U,rfl⟩:=oY ed;have M:=by simpa using U
 refine⟨(Array.getElem?_eq_some_iff.mp M).1,λv H' hy=>?_⟩;obtain⟨rfl,f,O,rfl⟩:=hy;rw[M]at O;cases O;exact⟨B,.refl s,.str _⟩
@[simp] def QS:D->Option LD
 |.lst ds=>some ds
 |.tup ds=>some ds
 |.str z=>some (ym z)
 |_=>none
@[simp] def dn (f:FE):FA:=λρ=>(f ρ).bind λx=>QS x.1
def QT (h:JE X e f):JI X tg e (dn f):=by
 intro af s σ H R I q;obtain⟨B,ρ,ds,M,r,O,q⟩:=q;obtain⟨U,ex,es⟩:=oX O;obtain⟨xd,g⟩:=U;cases xd with
 |lst l=>exact Cg h _ s σ H R I ⟨B,ρ,ds,M,r,by unfold G8;rw[ex];exact es,q⟩
 |tup l=>exact Cg h _ s σ H R I ⟨B,ρ,ds,M,r,by unfold G8;rw[ex];exact es,q⟩
 |str z=>
  cases es
  refine GB h _ s σ H R I ⟨B,ρ,_,_,M,r,ex,λv c N1 d i1 _=>?_⟩;cases i1
  exact⟨z,rr,q _ c N1 d (GC z)⟩
 |_=>cases es
def M0:F9 X (λx lo hi H Q=>∃z,x=.str z/\z.length<=sizeLine/\Q (.str (Txt.slice z lo hi)) H):=by
 intro af s σ H x v vl c lo hi sl Q I U hs pl O h;obtain⟨z,rfl,hz,q⟩:=h;obtain⟨t,rfl⟩:=U;have dI:∀lo hi,Q (.str (Txt.slice z lo hi)) H->(Txt.slice z lo hi).length<=sizeLine/\∀t' k,EP X af σ Q _ _:=λlo hi q=>
  ⟨vR (Txt.slice_le z _ _) hz,λt' k=>⟨.str _,H,I.tok k,⟨t',rr⟩,q⟩⟩
 refine⟨"str",_,PySem.F.slot_str_getitem.lookup,typeIs_str _ _ _,?_⟩;cases pl with
 |none=>
  cases O with
  |none=>exact wpAny_getItem_str_slice (l:=none) (u:=none) (st:=none) hs rr (post_val_or_str (dI _ _ q))
  |int j M=>exact wpAny_getItem_str_slice (l:=none) (u:=some (j,M)) (st:=none) hs rr (post_val_or_str (dI _ _ q))
 |int i ti=>
  cases O with
  |none=>exact wpAny_getItem_str_slice (l:=some (i,ti)) (u:=none) (st:=none) hs rr (post_val_or_str (dI _ _ q))
  |int j M=>exact wpAny_getItem_str_slice (l:=some (i,ti)) (u:=some (j,M)) (st:=none) hs rr (post_val_or_str (dI _ _ q))
def El {A:Around}{E:QV}{s:Shared}{prog:Program}{w:World}{t sl:Addr}{items:AV}{vl d:Value}{lo hi:OI}{Q:QV}(M:IsTup s.heap t items)(hs:s.heap.IsSliceOf sl vl d .none)(pl:IsPart vl lo)(f:IsPart d hi)
  (h0:HT.de items.size 0 lo=0) (h1:HT.de items.size items.size hi=items.size) (h:Q (.ref t) s):wpAny (model prog w) A (getItem (.ref t) (.ref sl)) Q E s:=by
 obtain⟨os,O,U,i⟩:=id hs
 have g:s.TypeIs (.ref sl) _:=⟨os,O,U⟩
 unfold getItem
 try with_reducible refine wpAny_holding ?_
 refine wX (wpAny_sequenceKey M.typeIs O9 ?_)
 refine wX (wpAny_callSpecial?_slot M.typeIs PyProof.Rows.slot_tuple_getitem (wpAny_call_entry PyProof.Rows.slot_tuple_getitem M.typeIs entry_tuple_getitem ?_ (args_tuple_getitem _ _)))
 show wpAny _ _ (Builtin.Tuple.tupleItemsOf _>>=_) _ _ s
 refine wX (tupleItemsOf_ M ?_)
 refine wX (wpAny_typeOf g ?_)
 refine wX (HT.hG hs pl f ?_)
 have c:(((HT.de items.size 0 lo:Nat):Int) == 0 && (1:Int) == 1 && (HT.de items.size items.size hi - HT.de items.size 0 lo) == items.size)=true:=by
  rw[h0,h1];simp
 show wpAny _ _ (if(((HT.de _ 0 lo:Nat):Int) == 0 && (1:Int) == 1 && (HT.de _ _ hi - HT.de _ 0 lo) == items.size)=true then _ else _) _ _ s
 rw[if_pos c]
 refine wX ?_
 refine wX (wpAny_typeOf M.typeIs (wY ?_))
 refine wX (wpAny_rule ?_)
 exact wY ⟨_,rr,wY h⟩
def M2:F9 X (λx lo hi H Q=>∃a xs,x=.ref a/\gF X.K H a xs/\HT.de xs.length 0 lo=0/\HT.de xs.length xs.length hi=xs.length/\Q (.ref a) H):=by
 intro af s σ H x v vl d lo hi sl Q I U hs pl c h;obtain⟨a,xs,rfl,hx,h0,h1,q⟩:=h;cases U
 obtain⟨its,r,O,hz⟩:=I.tuple hx;have M:its.toArray.size=xs.length:=by exact r.length.symm
 refine⟨"tuple",_,PyProof.Rows.slot_tuple_getitem.lookup,O.typeIs,?_⟩;exact El O hs pl c (by rw[M];exact h0) (by rw[M];exact h1) ⟨.ref a,H,I,rr,q⟩
@[simp] def M3 (fa:FE)(fl fh:FO):FE:=λρ=>(fa ρ).bind λx=>(fl ρ).bind λl=>(fh ρ).bind λh=>match x.1 with
 |.lst ds=>some (.lst (pi ds l h),true)
 |.tup ds=>some (.tup (pi ds l h),false)
 |.str z=>if z.length<=sizeLine then some (.str (Txt.slice z l h),false)else none
 |_=>none
def AA {ds:LD}{lo hi:OI}(h0:HT.de ds.length 0 lo=0)(h1:HT.de ds.length ds.length hi=ds.length):pi ds lo hi=ds:=by
 unfold pi;rw[h0,h1];simp
def GD {lo hi:Option Expr}{p2:Pos}{fa:FE}{fl fh:FO}(ha:JE X e fa)(hl:JO X lo fl)(hh:JO X hi fh):JE X (.Subscript e (.Slice lo hi none p2) pos) (M3 fa fl fh):=by
 refine PE.to (Ga (F9.or (F9.or LM Qh) (F9.or M0 M2)) ha hl hh) λσ H Q q=>?_;obtain⟨B,ρ,d,b,g,r,e,q⟩:=q;obtain⟨x,ex,e⟩:=oX e;obtain⟨l,i,e⟩:=oX e;obtain⟨h,j,e⟩:=oX e;refine⟨B,ρ,x.1,x.2,g,r,ex,λv m N1 M i1 _=>⟨N1,ρ,l,M.nh,r.mono M.bn,i,λH2 h2=>⟨N1,ρ,h,M.nh.trans h2,r.mono M.bn,j,λk h3=>?_⟩⟩⟩;have O:aH N1 k:=M.nh.trans (h2.trans h3);have c:=q.into (M.trans (.grow M.nh (h2.trans h3)));obtain⟨xd,n⟩:=x;cases i1 with
 |@tup f vs ds hs hv=>
  cases e
  by_cases hw:HT.de ds.length 0 l=0/\HT.de ds.length ds.length h=ds.length
  .rw[AA hw.1 hw.2]at c;exact .inr (.inr ⟨f,vs,rr,aV O hs,by rw[hv.length];exact hw.1,by rw[hv.length];exact hw.2,c.one O (.tup hs hv)⟩)
  .refine .inl (.inr ⟨f,vs,rr,aV O hs,by rw[hv.length];exact hw,λp hp=>?_⟩);have U:=Ext.laid (o:=.tup (sY vs l h)) O hp;exact c _ _ _ U (.tup (gF.of au) ((wj hv).mono U.bn)) H9
 |@lst f vs ds hs hv=>
  cases e
  refine .inl (.inl ⟨f,vs,rr,O.seq hs,λp hp=>?_⟩);have U:=Ext.laid (o:=.lst (sY vs l h)) O hp;exact c _ _ _ U (.lst (fD.of au) ((wj hv).mono U.bn)) λ_=>⟨p,_,_,rr,rr,hp,au,(wj hv).mono U.bn⟩
 |str z=>
  dsimp only at e;split at e
  .rename_i hz;cases e
   exact .inr (.inl ⟨z,rr,hz,c.one O (.str _)⟩)
  simp_all
 |_=>cases e
def const_int {K:Frag}{y:Str}{i:Int}{t:Tok}(e:nsIn K mainGlobals y=some (some (.int i t))):∃u v,nsIn K mainGlobals y=some (some u)/\aF v u/\∀B,Is K B v (.int i):=⟨_,.int i,e,⟨t,rr⟩,λ_=>.int i⟩
noncomputable def wu:Value->D->Bool
 |.none,.non=>true
 |.bool a,.bl b=>a == b
 |.int i _,.int j=>decide (i=j)
 |.str i _,.str j=>decide (i=j)
 |_,_=>false
def iK:LU->LD->Bool
 |[],[]=>true
 |u::us,d::ds=>wu u d && iK us ds
 |_,_=>false
theorem jW {K:Frag}{B:Hp}:∀ {u:Value}{d:D},wu u d=true->∃v,aF v u/\Is K B v d
 |.none,.non,_=>⟨.non,rr,.non⟩
 |.bool a,.bl b,h=>by
  have:=eq_of_beq h;subst this;exact⟨.bl a,rr,.bl a⟩
 |.int i t,.int j,h=>by
  have:=xy h;subst this;exact⟨.int i,⟨t,rr⟩,.int i⟩
 |.str i t,.str j,h=>by
  have:=xy h;subst this;exact⟨.str i,⟨t,rr⟩,.str i⟩
theorem iL {K:Frag}:∀ {us:LU}{ds:LD},iK us ds=true->∃vs,L2.aL vs us/\∀B,IsL K B vs ds
 |[],[],_=>⟨[],.nil,λ_=>.nil⟩
 |u::us,d::ds,h=>by
  rw[iK,vC]at h;obtain⟨vs,r,i⟩:=iL h.2;obtain⟨v,O,_⟩:=jW (K:=K) (B:=λ_=>none) h.1;refine⟨v::vs,.cons O r,λB=>?_⟩;obtain⟨U,M,c⟩:=jW h.1;have:U=v:=by have f:=O.abs;rw[M.abs]at f;simp_all
  subst this;exact .cons c (i B)
def const_tup {K:Frag}{y:Str}{a:Addr}{od:Option Addr}{its:AV}{n:Nat}{mS:Array (Option Value)}{ds:LD}(e:nsIn K mainGlobals y=some (some (.ref a)))
  (l:K.lookup a=some ⟨.type "tuple",od,.seq its n,mS⟩) (h:(decide (its.size<=1000) && iK its.toList ds)=true):∃u v,nsIn K mainGlobals y=some (some u)/\aF v u/\∀B,Is K B v (.tup ds):=by
 rw[vC]at h;obtain⟨vs,r,i⟩:=iL h.2;exact⟨_,.ref a,e,rr,λB=>.tup (.inr ⟨_,its,n,l,rr,rr,le_of_lt (lt_of_le_of_lt (xy h.1) O9),r⟩) (i B)⟩
end
section
variable {X:Cx}{a b o e:Expr}{pos:Pos}{x:Str}{p:Pos}{tg:Expr}
def QU {name:Str}{id:String}{cm b8:Pos}{op:D->D->OB}{fo fe:FE}(slot:Slot "str" name id)(i:typeOf (.builtin id)=pure (.type "method_descriptor"))
  (hm:LJ X id (λx xs H Q=>∃y,xs=[y]/\rD X.K op x y H Q)) (j:∀dx k r,op dx k=some r->∃z,dx=.str z) (ho:JE X o fo) (he:JE X e fe)
  (M:attributeBase o name X.env (eval o X.env)=eval o X.env)
  (l:((backTo b8 (starEach [e] X.env)).all (λx=>!x.1) && (backToKw b8 (keywordEach [] X.env)).all (λx=>x.1.isSome)
   && decide ([e].length+([]:List Keyword).length+(if([]:List Keyword).isEmpty then 0 else 1)<30))=true)
  (O:(cm.endLine == b8.line)=true) (hs:starEach [e] X.env=[(false,eval e X.env)]):
  JE X (.Call (.Attribute o name cm) [e] [] b8) (f2 op fo fe):=by
 refine PE.to (xJ PySem.F.plainAttrs_str slot i hm ho (dB he f6 hs) M l O hs rr) λσ H Q q=>?_;obtain⟨B,ρ,d,bb,m,r,c,q⟩:=q;obtain⟨g,ex,c⟩:=oX c;obtain⟨f,n,c⟩:=oX c;obtain⟨z,hz⟩:=j _ _ _ c;refine⟨B,ρ,g.1,g.2,m,r,ex,λv t N1 U i1 _=>?_⟩;rw[hz]at i1;cases i1
 refine⟨show "str" = "str" from rr,N1,ρ,f.1,f.2,U.nh,r.mono U.bn,n,λs H2 N2 h i2 _=>⟨s,rr,N2,.str z,f.1,d,bb,h.nh,.str z,i2,by rw[<-hz];exact c,q.into (U.trans h)⟩⟩
@[simp] noncomputable def QW:D->Option Str
 |.str z=>some z
 |_=>none
def dL:LD->Option LS
 |[]=>some []
 |d::ds=>(QW d).bind λz=>(dL ds).map (z :: ·)
@[simp] def SY:dL []=some []:=rfl
@[simp] def QX (d:D)(ds:LD):dL (d::ds)=(QW d).bind λz=>(dL ds).map (z :: ·):=rfl
@[simp] def Ta (zs:LS):dL (zs.map D.str)=some zs:=by
 induction zs with
 |nil=>rfl
 |cons z zs M=>simp[M]
theorem ga {K:Frag}{B:Hp}:∀ {vs:LV}{ds:LD}{zs:LS}{its:LU},L2.aL vs its->IsL K B vs ds->dL ds=some zs->StrsAre its zs
 |_,_,_,_,.nil,.nil,e=>by cases e;exact .nil
 |_,_,_,_,.cons r O,.cons i U,e=>by
  obtain⟨z,M,e⟩:=oX e;obtain⟨zs,e2,e⟩:=oY e;subst e;cases i<;>simp [QW]at M<;>try (cases M;done)
  cases M
  obtain⟨t,rfl⟩:=r;exact .cons _ t (ga O U e2)
@[simp] def GF:D->D->OB
 |.str M,.lst ds=>(dL ds).bind λzs=>if(zs.map (·.length)).sum+zs.length*M.length<=16777216 then some (.str (Txt.join M zs),false)else none
 |.str M,.tup ds=>(dL ds).bind λzs=>if(zs.map (·.length)).sum+zs.length*M.length<=16777216 then some (.str (Txt.join M zs),false)else none
 |_,_=>none
def QY:LJ X "str.join" (λx xs H Q=>∃y,xs=[y]/\rD X.K GF x y H Q):=by
 intro af s σ H x xs v us Q I i rs h;obtain⟨y,rfl,B,dx,n,d,bb,O,j,l,M,q⟩:=h;obtain⟨r,rfl,g⟩:=eC rs;cases j<;>(try (simp at M))
 obtain⟨t,rfl⟩:=i;cases l<;>(try (simp at M;done))
 .rename_i h hl;obtain⟨zs,U,M⟩:=oX M;split at M
  .rename_i hok;cases M
   cases g
   obtain⟨its,c,f,m⟩:=I.tuple (aV O h);exact join_tuple f (by simpa using ga c hl U) hok λt' k=>⟨.str _,H,I.tok k,⟨t',rr⟩,q.one O (.str _)⟩
  simp_all
 .rename_i h hl;obtain⟨zs,U,M⟩:=oX M;split at M
  .rename_i hok;cases M
   cases g
   obtain⟨its,c,f,m⟩:=I.list (O.seq h);exact join_list f.isList (by simpa using ga c hl U) hok λt' k=>⟨.str _,H,I.tok k,⟨t',rr⟩,q.one O (.str _)⟩
  simp_all
def GG (dx M:D)(r:D×Bool)(h:GF dx M=some r):∃z,dx=.str z:=by
 cases dx<;>first|exact⟨_,rr⟩|(cases M<;>simp at h)
noncomputable def gH:LN->LD->Env->Option Env
 |[],[],ρ=>some ρ
 |i::is,d::ds,ρ=>gH is ds (ρ.set i (some (d,false)))
 |_,_,_=>none
@[simp] def Tc (ρ:Env):gH [] [] ρ=some ρ:=by rw[gH]
@[simp] def AB (i:Nat)(is:LN)(d:D)(ds:LD)(ρ:Env):gH (i::is) (d::ds) ρ=gH is ds (ρ.set i (some (d,false))):=by rw[gH]
@[simp] def UZ (d:D)(ds:LD)(ρ:Env):gH [] (d::ds) ρ=none:=by simp only[gH]
@[simp] def Va (i:Nat)(is:LN)(ρ:Env):gH (i::is) [] ρ=none:=by simp only[gH]
@[simp] def FD (is:LN):FG:=λd ρ=>match d with|.tup ds=>gH is ds ρ|_=>none
def lm:LN->PJ
 |[]=>TH
 |i::is=>O7 (gY i) (lm is)
def GH:aH (df N (own σ ρ)) (df N (own (σ.set i (some v)) (ρ.set i (some (d,false))))):=dr λa u e q=>⟨e,λz=>q (by
 rcases p5 z with⟨_,d',p⟩|⟨j,_,d',M,q2⟩
 .cases p
 .exact⟨j,d',M,q2⟩)⟩
theorem tW {K:Frag}:∀ {is:LN}{vs:LV}{ds:LD}{B0 H0 N H:Hp}{σ:St}{ρ ρ':Env}{Q:St->Hp->Prop},cQ K B0 H0 N H σ ρ->IsL K (df N (own σ ρ)) vs ds->gH is ds ρ=some ρ'->(∀M,cQ K B0 H0 N H M ρ'->Q M H)->lm is vs σ H Q
 |[],_,_,_,_,_,_,_,_,_,_,s,.nil,e,k=>by
  cases e
  exact⟨rr,k _ s⟩
 |[],_,_,_,_,_,_,_,_,_,_,_,.cons _ _,e,_=>by simp at e
 |_::_,_,_,_,_,_,_,_,_,_,_,_,.nil,e,_=>by simp at e
 |i::is,_,_,_,_,_,_,_,_,_,_,s,.cons h hs,e,k=>by
  exact⟨_,_,rr,tW (s.bind h) (hs.mono GH) e k⟩
theorem nj:∀ {is:LN}{ds:LD}{ρ ρ':Env},gH is ds ρ=some ρ'->ds.length=is.length
 |[],[],_,_,_=>rr
 |_::_,_::_,_,_,e=>by rw[AB]at e;simp[nj e]
 |[],_::_,_,_,e=>by simp at e
 |_::_,[],_,_,e=>by simp at e
def Vb {K:Frag}{is:LN}:Lh K (FD is) (FN K is.length (lm is)):=by
 intro B0 H0 N H σ ρ ρ' v d Q s h e k;cases h with
 |@tup a vs ds O hl=>
  have M:=e;exact⟨a,vs,rr,aV (bp.trans s.ext.nh) O,by rw[hl.length];exact nj M,tW s hl M λU s'=>k _ H ⟨N,s'⟩⟩
 |_=>cases e
theorem tX {K:Frag}{n:Nat}{B H:Hp}{M:Env}{Q:St->Hp->Prop}(cl:∀i,i<n->M[i]? = some none):∀ {is:LN}{vs:LV}{ds:LD}{σ:St}{ρ U:Env},(∀i∈is,i<n)->ej K B σ ρ->IsL K B vs ds->gH is ds ρ=some U->ρ.length=σ.length->ρ.length=M.length ->
  (∀O,ej K B O U->(∀c,ej K c σ M->ej K c O M)->M.length=O.length->Q O H)->lm is vs σ H Q
 |[],_,_,_,_,_,_,rp,.nil,e,l1,l2,k=>by
  cases e
  exact⟨rr,k _ rp (λ_ z=>z) N9⟩
 |[],_,_,_,_,_,_,_,.cons _ _,e,_,_,_=>by simp at e
 |_::_,_,_,_,_,_,_,_,.nil,e,_,_,_=>by simp at e
 |i::is,_,_,σ,ρ,_,hn,rp,.cons h hs,e,l1,l2,k=>by
  have hi:=hn i mX;have m:i<σ.length:=by
   grind
  refine⟨_,_,rr,tX cl (λj hj=>hn j (mZ _ hj)) ⟨rp.tb,λj d b q=>?_⟩ hs e (by simpa using l1) (by simpa using l2) λO f g l=>k _ f (λc z=>g c ⟨z.tb,λj d b q=>?_⟩) l⟩
  .rcases bG q with⟨rfl,pp⟩|⟨ne,pp⟩
   .simp_all
   .obtain⟨w,h1,h2⟩:=rp.at' j d b pp;simp_all
  .obtain⟨w,h1,h2⟩:=z.at' j d b q;have ne:i≠j:=λz=>by grind
   exact⟨w,by simp_all,h2⟩
def GI {K:Frag}{n:Nat}{is:LN}(hn:∀i∈is,i<n):Mg K n (FD is) (FN K is.length (lm is)):=by
 intro B H σ ρ O v d Q cl rep s h e hl k;cases h with
 |@tup a vs ds U hv=>
  have M:=e;exact⟨a,vs,rr,aV s U,by rw[hv.length];exact nj M,tX cl hn rep hv M hl rr k⟩
 |_=>cases e
end
section
variable {prog:Program}{w:World}{A:Around}{E:QV}{s:Shared}
def AD (st:s.heap.IsTupleIter it l i)(M:s.heap.IsTuple l items)(hv:items[i]? = some v)
  (k:∀h',h'.IsTupleIter it l (i+1)->Heap.SameBut it s.heap h'->Q v { s with heap:=h' }):wpAny (model prog w) A (Builtin.SmallTypes.nextOf (.ref it)) Q E s:=by
 obtain⟨a,g1,O,d1⟩:=id st;obtain⟨b,U,_,n2,d2⟩:=M;refine wX (wpAny_callSpecial?_slot st.typeIs slot_tuple_iterator_next (wpAny_call_entry slot_tuple_iterator_next st.typeIs PySem.F.entry_tuple_iterator_next ?_ (PySem.F.args_tuple_iterator_next_1 _)));show wpAny _ _ (field _ 0>>=_) _ _ _;refine wX (wpAny_field g1 d1 rr ?_);refine wX (wpAny_field g1 d1 rr ?_);refine wX (wpAny_seqItems U d2 ?_);simp [hv,Int.toNat_natCast];refine wX (wpAny_setField g1 d1 H9 (wY ⟨v,rr,wY (k _ ?_ (vW ..))⟩));exact⟨_,Heap.get?_update_self _ g1 (Obj.isFreed_of_fields (Obj.data_mapFields d1 _)),(Obj.cls_mapFields ..).trans O,by rw[Obj.data_mapFields d1];simp[rawInt]⟩
def Em (M:A.handled=none)(st:s.heap.IsTupleIter it l i)(O:s.heap.IsTuple l items)(hv:items[i]? = none)
  (k:∀h' x,Heap.ExtBut it s.heap h'->(∃o,h'.get? x=some o/\o.cls=.type "StopIteration")->E (.ref x) { s with heap:=h' }):wpAny (model prog w) A (Builtin.SmallTypes.nextOf (.ref it)) Q E s:=by
 obtain⟨a,g1,b,d1⟩:=id st;obtain⟨c,U,_,n2,d2⟩:=O;refine wX (wpAny_callSpecial?_slot st.typeIs slot_tuple_iterator_next (wpAny_call_entry slot_tuple_iterator_next st.typeIs PySem.F.entry_tuple_iterator_next ?_ (PySem.F.args_tuple_iterator_next_1 _)));show wpAny _ _ (field _ 0>>=_) _ _ _;refine wX (wpAny_field g1 d1 rr ?_);refine wX (wpAny_field g1 d1 rr ?_);refine wX (wpAny_seqItems U d2 ?_);simp [hv,Int.toNat_natCast];refine wX (wpAny_rule (wX (wpAny_setField g1 d1 H9 ?_)));refine wX ?_;refine wX (m:=firstArgMember _ _) (wpAny_of_eq Y9 ?_);refine wpAny_newObj_type ?_ H8;refine wX (wpAny_handled ?_);first|rw[M]|rw[show A.in1.handled=none from M]
 exact wX (wY (wpAny_throw (k _ _ (((vW ..).extBut.push _).push _) ⟨_,vY _ rr,rr⟩)))
end
def jX:Bool->Heap->Addr->Addr->Nat->Prop
 |true,h,it,a,i=>h.IsListIter it a i
 |false,h,it,a,i=>h.IsTupleIter it a i
def jY:Bool->Heap->Addr->AV->Prop
 |true,h,a,items=>h.IsList a items
 |false,h,a,items=>h.IsTuple a items
def ln (k:Bool)(K:Frag)(H:Hp)(a:Addr)(xs:LV):Prop:=match k with|true=>fD K H a xs|false=>gF K H a xs
def jX.ob (st:jX k h it a i):∃o,h.get? it=some o/\∀v,o.data≠.cell v:=by
 cases k<;>(obtain⟨o,g,_,d⟩:=st;simp_all)
def jX.upon (st:jX k h it a i)(g:∀o,h.get? it=some o->h'.get? it=some o):jX k h' it a i:=by
 cases k<;>(obtain⟨o,e,r⟩:=st;exact⟨o,g o e,r⟩)
def jY.upon (st:jY k h a items)(g:∀o,h.get? a=some o->h'.get? a=some o):jY k h' a items:=by
 cases k<;>(obtain⟨o,e,r⟩:=st;exact⟨o,g o e,r⟩)
def jY.lt (st:jY k h a items):a<h.objs.size:=by
 cases k<;>(obtain⟨o,e,r⟩:=st;exact vX e)
theorem ln.same {k:Bool}{K:Frag}{H H':Hp}{a:Addr}{xs:LV}(h:ln k K H a xs)(e:aH H H'):ln k K H' a xs:=by
 cases k
 .exact aV e h
 .exact e.seq h
def ln.vals (I:Inv X af σ H s)(h:ln k X.K H a xs):∃its:LU,aL xs its/\jY k s.heap a its.toArray/\xs.length<=sizeLine:=by
 cases k
 .exact I.tuple h
 .obtain⟨its,r,p,z⟩:=I.list h;exact⟨its,r,p.isList,z⟩
def ln.inj (I:Inv X af σ H s)(h:ln k X.K H a xs)(h':ln k X.K H a ys):xs=ys:=by
 cases k
 .exact I.tuple_inj h h'
 .exact I.list_inj h h'
section
variable {prog:Program}{w:World}{A:Around}{E:QV}{s:Shared}
def eF (st:jX k s.heap it l i)(M:jY k s.heap l items)(hv:items[i]? = some v)
  (q:∀h',jX k h' it l (i+1)->Heap.SameBut it s.heap h'->Q v { s with heap:=h' }):wpAny (model prog w) A (Builtin.SmallTypes.nextOf (.ref it)) Q E s:=by
 cases k
 .exact AD st M hv q
 .exact wpAny_nextOf_list_item st M hv q
def hU (M:A.handled=none)(st:jX k s.heap it l i)(O:jY k s.heap l items)(hv:items[i]? = none)
  (q:∀h' x,Heap.ExtBut it s.heap h'->(∃o,h'.get? x=some o/\o.cls=.type "StopIteration")->E (.ref x) { s with heap:=h' }):wpAny (model prog w) A (Builtin.SmallTypes.nextOf (.ref it)) Q E s:=by
 cases k
 .exact Em M st O hv q
 .exact wpAny_nextOf_list_end M st O hv q
end
noncomputable def M4 (k:Bool)(l:Addr):Obj:={ cls:=.type (if k=true then "list_iterator" else "tuple_iterator"),data:=.fields #[.ref l,.int 0 0] }
def lZ (M:jY k s.heap l items)
  (q:Q (.ref s.z) { s with heap:=s.heap.push (M4 k l) }):wpAny (model prog w) A (pyIter (.ref l)) Q E s:=by
 cases k
 .exact wpAny_pyIter_tuple M q
 .exact wpAny_pyIter_list M q
def jY.push (st:jY k h a items)(o:Obj):jY k (h.push o) a items:=st.upon λ_ e=>vZ _ e
section
variable (k1 k2:Bool) (h:Heap) (l1 l2:Addr)
abbrev zA:Heap:=h.push (M4 k1 l1)
abbrev zB:Heap:=(zA k1 h l1).push (M4 k2 l2)
abbrev zC:Heap:=(zB k1 k2 h l1 l2).push { cls:=.type "tuple",data:=.seq #[.ref h.objs.size,.ref (zA k1 h l1).objs.size] }
abbrev zD:Heap:=(zC k1 k2 h l1 l2).push { cls:=.type "tuple",data:=.seq #[.none,.none] }
abbrev zE:Heap:=(zD k1 k2 h l1 l2).push { cls:=.type "zip",data:=.fields #[.none,.bool false,.bool false,.ref (zB k1 k2 h l1 l2).objs.size,.ref (zC k1 k2 h l1 l2).objs.size] }
end
def AE (k1 k2:Bool)(l1 l2:Addr)(xs ys:AV):Meets (Builtin.«zip.__new__» ⟨[.type "zip",.ref l1,.ref l2],[]⟩) (λ_ R s=>jY k1 s.heap l1 xs/\jY k2 s.heap l2 ys /\
   R (.ok (.ret (.ref (zD k1 k2 s.heap l1 l2).objs.size))) { s with heap:=zE k1 k2 s.heap l1 l2 }):=
 .of_wp λprog w A R s hs=>by
  obtain⟨hp,g,d,tk,os⟩:=s;obtain⟨O,q2,hs⟩:=hs;have M:=sub_zip;have U:=O;have p2:jY k2 (Shared.heap ⟨hp.push (M4 k1 l1),g,d,tk,os⟩) l2 ys:=jY.push q2 _;wp_walk using lZ U,lZ p2;exact⟨_,rr,hs⟩
section
variable {prog:Program}{w:World}{A:Around}{E:QV}{s:Shared}
def Ch (h:jY k1 s.heap l1 xs)(q2:jY k2 s.heap l2 ys)
  (q:∀h',IsZip h' (s.z+4) (s.z+2) (s.z+3) .none->IsPair h' (s.z+2) (.ref s.z) (.ref (s.z+1))->IsPair h' (s.z+3) .none .none ->
   jX k1 h' s.z l1 0->jX k2 h' (s.z+1) l2 0->(∀c o,s.heap.get? c=some o->h'.get? c=some o)->Q (.ref (s.z+4)) { s with heap:=h' }):
  wpAny (model prog w) A (call (.type "zip") [.ref l1,.ref l2]) Q E s:=by
 refine callType_new PySem.F.called_zip O9 (PySem.F.typeCall_zip_2 _ _) (PySem.F.newCall_zip_2 _ _) (λobj=>PySem.F.args_object_init_3 obj _ _) PySem.F.entry_zip_new (AE k1 k2 l1 l2 xs ys) ⟨h,q2,?_⟩;have n1:(zA k1 s.heap l1).objs.size=s.z+1:=Heap.size_push ..;have n2:(zB k1 k2 s.heap l1 l2).objs.size=s.z+2:=by rw[Heap.size_push,n1]
 have n3:(zC k1 k2 s.heap l1 l2).objs.size=s.z+3:=by rw[Heap.size_push,n2]
 have n4:(zD k1 k2 s.heap l1 l2).objs.size=s.z+4:=by rw[Heap.size_push,n3]
 have O:∀ {c o},(zD k1 k2 s.heap l1 l2).get? c=some o->(zE k1 k2 s.heap l1 l2).get? c=some o:=λe=>vZ _ e;have U:∀ {c o},(zC k1 k2 s.heap l1 l2).get? c=some o->(zE k1 k2 s.heap l1 l2).get? c=some o:=λe=>O (vZ _ e);have a:∀ {c o},(zB k1 k2 s.heap l1 l2).get? c=some o->(zE k1 k2 s.heap l1 l2).get? c=some o:=λe=>U (vZ _ e);have b:∀ {c o},(zA k1 s.heap l1).get? c=some o->(zE k1 k2 s.heap l1 l2).get? c=some o:=λe=>a (vZ _ e);have i:∀ {c o},s.heap.get? c=some o->(zE k1 k2 s.heap l1 l2).get? c=some o:=λe=>b (vZ _ e);have M:(zE k1 k2 s.heap l1 l2).get? _=some _:=vY _ rr;have d:=O (vY _ rr);have f:=U (vY _ rr);have g:=a (vY _ (by cases k2<;>rfl))
 have g1:=b (vY _ (by cases k1<;>rfl))
 rw[n2,n3,n4]at M;rw[n1,n2]at f;rw[n3]at d;rw[n1]at g;show _/\_;rw[n4];refine⟨⟨_,M,rr⟩,q _ M f d ?_ ?_ λc o e=>i e⟩
 .cases k1<;>exact⟨_,g1,rr,rr⟩
 .cases k2<;>exact⟨_,g,rr,rr⟩
structure ZApart (z TI TO i1 i2:Addr):Prop where
 tz:TI≠z
 oz:TO≠z
 az:i1≠z
 bz:i2≠z
 oa:TO≠i1
 ob:TO≠i2
 to:TI≠TO
 ta:TI≠i1
 tb:TI≠i2
 ab:i1≠i2
def yn {k1 k2:Bool}{z TI TO i1 i2 l1 l2:Addr}{j:Nat}{xs ys:AV}{x y a b:Value}{Q:QV}(D:ZApart z TI TO i1 i2)(m1:l1≠z/\l1≠TO/\l1≠i1)(m2:l2≠z/\l2≠TO/\l2≠i1/\l2≠i2)
  (hz:IsZip s.heap z TI TO .none) (T:IsPair s.heap TI (.ref i1) (.ref i2)) (V:IsPair s.heap TO a b) (W:jX k1 s.heap i1 l1 j) (X:jX k2 s.heap i2 l2 j) (Y:jY k1 s.heap l1 xs) (q2:jY k2 s.heap l2 ys) (hx:xs[j]? = some x) (hy:ys[j]? = some y)
  (q:∀h',IsZip h' z TI TO (rawInt s.z)->IsPair h' TO x y->jX k1 h' i1 l1 (j+1)->jX k2 h' i2 l2 (j+1)->IsPair h' s.z x y->h'.objs.size=s.z+1 ->
   (∀c o,c≠z->c≠TO->c≠i1->c≠i2->s.heap.get? c=some o->h'.get? c=some o)->Q (.ref s.z) { s with heap:=h' }):
  wpAny (model prog w) A (Builtin.«zip.__next__» ⟨[.ref z],[]⟩) (λdI s'=>∃v,dI=.done (.ret v)/\Q v s') E s:=by
 show wpAny _ _ (field (.ref z) 2>>=_) _ _ s;refine wX (wpAny_field hz rr (x:=.bool false) rr ?_);show wpAny _ _ (field (.ref z) 3>>=_) _ _ s;refine wX (wpAny_field hz rr (x:=.ref TI) rr (wX (wpAny_seqItems T rr ?_)));refine wX ?_;unfold Builtin.SmallTypes.ownedTupleIsFree;refine wX (wpAny_field hz rr (x:=.none) rr (wY ?_));simp only[if_true];refine wX (wpAny_rule (wX (wpAny_field hz rr (x:=.ref TO) rr (wX (wpAny_setField_rec hz H9 λg1 u s1=>?_)))));replace u:IsZip g1 z TI TO .ellipsis:=u;refine wX ?_;refine wX (wX (wpAny_onRaise ?_));refine wX (eF (s:={ s with heap:=g1 }) (W.upon λo e=>s1.extBut _ _ D.az e) (Y.upon λo e=>s1.extBut _ _ m1.1 e) hx λZ B s2=>wY ?_);have S:IsPair Z TO a b:=s2.extBut _ _ D.oa (s1.extBut _ _ D.oz V);refine wX (wpAny_seqItems S rr (wX (wpAny_updateSeq_pair S λC d p=>?_)));replace d:IsPair C TO x b:=d;refine wX (wpAny_letGo (wY (wX (wX (wpAny_onRaise ?_)))));have F:∀ {c o},c≠z->c≠TO->c≠i1->s.heap.get? c=some o->C.get? c=some o:=λO c2 c3 e=>p.extBut _ _ c2 (s2.extBut _ _ c3 (s1.extBut _ _ O e));refine wX (eF (s:={ s with heap:=C }) (X.upon λo e=>F D.bz D.ob.symm D.ab.symm e) (q2.upon λo e=>F m2.1 m2.2.1 m2.2.2.1 e) hy λg4 G f=>wY ?_);have g:IsPair g4 TO x b:=f.extBut _ _ D.ob d;refine wX (wpAny_seqItems g rr (wX (wpAny_updateSeq_pair g λM U h=>?_)));replace U:IsPair M TO x y:=U;refine wX (wpAny_letGo (wY (wY (wX (wpAny_seqItems U rr (wX (wpAny_newTuple ?_)))))));have sz:M.objs.size=s.z:=by rw[h.1,f.1,p.1,s2.1,s1.1]
 have H:∀c o,c≠z->c≠TO->c≠i1->c≠i2->s.heap.get? c=some o->M.get? c=some o:=λc o O c2 c3 I e=>h.extBut _ _ c2 (f.extBut _ _ I (F O c2 c3 e));have i:IsZip M z TI TO .ellipsis:=h.extBut _ _ D.oz.symm (f.extBut _ _ D.bz.symm (p.extBut _ _ D.oz.symm (s2.extBut _ _ D.az.symm u)));have J:jX k1 M i1 l1 (j+1):=B.upon λo e=>h.extBut _ _ D.oa.symm (f.extBut _ _ D.ab (p.extBut _ _ D.oa.symm e));have K:jX k2 M i2 l2 (j+1):=G.upon λo e=>h.extBut _ _ D.ob.symm e;have k:z<M.objs.size:=vX i;refine wX ?_;unfold Builtin.SmallTypes.ownedTupleHandOut;have L:IsZip (M.push { cls:=.type "tuple",data:=.seq #[x,y] }) z TI TO .ellipsis:=vZ _ i;refine wX (wpAny_setField_rec L H9 λg7 N P=>?_);refine wpAny_setField_rec N H9 λr l R=>?_;have t:∀c o,c≠z->M.get? c=some o->r.get? c=some o:=λc o O e=>R.extBut _ _ O (P.extBut _ _ O (vZ _ e));have m:IsPair r M.objs.size x y:=R.extBut _ _ (ne_of_gt k) (P.extBut _ _ (ne_of_gt k) (vY _ rr));have n:r.objs.size=M.objs.size+1:=by rw[R.1,P.1,Heap.size_push]
 rw[sz]at l m n;refine wY ⟨_,rr,?_⟩;show Q (.ref M.objs.size) _;rw[sz];exact q r l (t _ _ D.oz U) (J.upon λo e=>t _ o D.az e) (K.upon λo e=>t _ o D.bz e) m n λc o O c2 c3 I e=>t c o O (H c o O c2 c3 I e)
end
section
variable {prog:Program}{w:World}{A:Around}{E:QV}{s:Shared}
def Ci {k1 k2:Bool}{z TI TO i1 i2 l1 l2:Addr}{j:Nat}{xs ys:AV}{a b:Value}{Q:PySem.Fin->Shared->Prop}(n:A.handled=none)(D:ZApart z TI TO i1 i2)(m1:l1≠z/\l1≠TO/\l1≠i1)(m2:l2≠z/\l2≠TO/\l2≠i1/\l2≠i2)
  (hz:IsZip s.heap z TI TO .none) (B:IsPair s.heap TI (.ref i1) (.ref i2)) (C:IsPair s.heap TO a b) (p:jX k1 s.heap i1 l1 j) (F:jX k2 s.heap i2 l2 j) (r:jY k1 s.heap l1 xs) (q2:jY k2 s.heap l2 ys) (he:xs[j]? = none\/ys[j]? = none)
  (q:∀h' x,(∀c o,c≠z->c≠TO->c≠i1->c≠i2->s.heap.get? c=some o->h'.get? c=some o)->(∃o,h'.get? x=some o/\o.cls=.type "StopIteration")->E (.ref x) { s with heap:=h' }):
  wpAny (model prog w) A (Builtin.«zip.__next__» ⟨[.ref z],[]⟩) Q E s:=by
 show wpAny _ _ (field (.ref z) 2>>=_) _ _ s;refine wX (wpAny_field hz rr (x:=.bool false) rr ?_);refine wX (wpAny_field hz rr (x:=.ref TI) rr (wX (wpAny_seqItems B rr ?_)));refine wX ?_;refine wX (wpAny_field hz rr (x:=.none) rr (wY ?_));simp only[if_true];refine wX (wpAny_rule (wX (wpAny_field hz rr (x:=.ref TO) rr (wX (wpAny_setField_rec hz H9 λg1 U s1=>?_)))));refine wX ?_;refine wX (wX (wpAny_onRaise ?_));cases hx:xs[j]? with
 |none=>
  refine wX (hU (s:={ s with heap:=g1 }) n (p.upon λo e=>s1.extBut _ _ D.az e) (r.upon λo e=>s1.extBut _ _ m1.1 e) hx λg x s2 hX=>?_);obtain⟨h,i,k⟩:=hX;have G:IsZip g z TI TO .ellipsis:=s2 _ _ D.az.symm U;have l:x≠z:=λH=>by lia
  exact wpAny_setField_rec G H9 λf _ d=>q f x (λc o M _ c3 _ e=>d.extBut _ _ M (s2 _ _ c3 (s1.extBut _ _ M e))) ⟨h,d.extBut _ _ l i,k⟩
 |some v=>
  have hy:ys[j]? = none:=by
   lia
  refine wX (eF (s:={ s with heap:=g1 }) (p.upon λo e=>s1.extBut _ _ D.az e) (r.upon λo e=>s1.extBut _ _ m1.1 e) hx λg I s2=>wY ?_);have t:IsPair g TO a b:=s2.extBut _ _ D.oa (s1.extBut _ _ D.oz C);refine wX (wpAny_seqItems t rr (wX (wpAny_updateSeq_pair t λf J d=>?_)));refine wX (wpAny_letGo (wY (wX (wX (wpAny_onRaise ?_)))));have O:∀ {c o},c≠z->c≠TO->c≠i1->s.heap.get? c=some o->f.get? c=some o:=λM c2 c3 e=>d.extBut _ _ c2 (s2.extBut _ _ c3 (s1.extBut _ _ M e));refine wX (hU (s:={ s with heap:=f }) n (F.upon λo e=>O D.bz D.ob.symm D.ab.symm e) (q2.upon λo e=>O m2.1 m2.2.1 m2.2.2.1 e) hy λK x u hX=>?_);obtain⟨h,i,k⟩:=hX;have m:IsZip K z TI TO .ellipsis:=u _ _ D.bz.symm (d.extBut _ _ D.oz.symm (s2.extBut _ _ D.az.symm U));have l:x≠z:=λH=>by lia
  exact wpAny_setField_rec m H9 λL _ y=>q L x (λc o M c2 c3 N e=>y.extBut _ _ M (u _ _ N (O M c2 c3 e))) ⟨h,y.extBut _ _ l i,k⟩
end
def jZ {X:Cx}{af:AO}{σ:St}{H:Hp}{s:Shared}{h':Heap}{t':Nat}{ch:List Addr}(I:Inv X af σ H s)(f:∀b∈ch,lg X af H b)(k:∀b o,b∉ch->s.heap.get? b=some o->h'.get? b=some o):Inv X af σ H { s with heap:=h',toks:=t' }:=by
 have M:∀b u,H b=some u->b∉ch:=λb u e z=>by rw[(f b z).1]at e;cases e
 refine I.step (λb hb=>?_) (λb o _ _ hc e _=>k b o hc e) (λb o _ _ hc e _=>⟨o.slots,k b o hc e⟩) (λ_ _ _ _ n=>n)
  (λb o hc e=>⟨o,k b o hc e⟩) (λ_ _ e=>e) (λ_ _ _ e=>e) (λ_ _ e=>e) (λm hm=>?_) (λb u e=>?_) I.bare
 .obtain⟨_,f1,_,O,U,a⟩:=f b hb;exact⟨O,f1,U,a⟩
 .obtain⟨o,es,d,ho,r⟩:=hm;exact⟨o,es,d,k _ o (λz=>(f _ z).2.1 rr) ho,r⟩
 .refine(I.hok b u e).stay (λc v hc q=>k c v ?_ q) (λ_ q=>q) (λ_ _ q=>q) λ_ _ _ q=>q;grind
def Cj {X:Cx}{af:AO}{σ:St}{H:Hp}{s:Shared}{h':Heap}{t':Nat}{ch:List Addr}{a:Addr}{ob:HO}(I:Inv X af σ H s)(f:∀b∈ch,lg X af H b)(k:∀b o,b∉ch->s.heap.get? b=some o->h'.get? b=some o)(ha:s.z<=a)
  (new:bf X.prog X.w (upd H a ob) h' a ob):Inv X af σ (upd H a ob) { s with heap:=h',toks:=t' }:=by
 have hn:H a=none:=I.hok.fresh ha;have M:∀b u,H b=some u->b∉ch:=λb u e z=>by rw[(f b z).1]at e;cases e
 have O:∀b o,s.heap.get? b=some o->b≠a:=λb o e=>vS (vQ (vX e) ha);refine I.step (ch:=ch) (λb hb=>?_) (λb o _ _ hc e _=>k b o hc e) (λb o _ _ hc e _=>⟨o.slots,k b o hc e⟩) (λb o _ e n=>by rw[a5 (O b o e)];exact n)
  (λb o hc e=>⟨o,k b o hc e⟩) (λb xs e=>by rw[a5 (aN e hn)];exact e) (λb o u e=>by rw[a5 (aN e hn)];exact e) (λb ps e=>by rw[a5 (aN e hn)];exact e) (λm hm=>?_) (λb u e=>?_) I.bare
 .obtain⟨_,f1,_,U,d,g⟩:=f b hb;exact⟨U,f1,d,g⟩
 .obtain⟨o,es,h,ho,r⟩:=hm;exact⟨o,es,h,k _ o (λz=>(f _ z).2.1 rr) ho,r⟩
 .by_cases hb:b=a
  .simp_all[au]
  .rw[a5 hb]at e;refine(I.hok b u e).stay (λc v hc q=>k c v ?_ q) (λc q=>?_) (λc xs q=>?_) λc o xs q=>?_
   .grind
   .rw[a5 (aN q hn)];exact q
   .rw[a5 (aN q hn)];exact q
   .rw[a5 (aN q hn)];exact q
noncomputable def XT (K:Frag)(k1 k2:Bool)(M O:Addr):It:=
  ⟨λi H=>∃xs ys x y,ln k1 K H M xs/\ln k2 K H O ys/\xs[i]? = some x/\ys[i]? = some y,
   λi H v H'=>∃T x y,v=.ref T/\H T=none/\H'=upd H T (.tup [x,y])/\(∀xs,ln k1 K H M xs->xs[i]? = some x)/\(∀ys,ln k2 K H O ys->ys[i]? = some y),
   λi H=>∃xs ys,ln k1 K H M xs/\ln k2 K H O ys/\(xs.length<=i\/ys.length<=i)⟩
def GJ {P:Program}{w:World}{K:Frag}{es:QD}{C:Nat}{pt:Pos}{k1 k2:Bool}{j f z TI TO i1 i2:Addr}(D:ZApart z TI TO i1 i2)(m1:j≠z/\j≠TO/\j≠i1)(m2:f≠z/\f≠TO/\f≠i1/\f≠i2):
  Turn P w K (.Tuple es C pt) (XT K k1 k2 j f) [z,TI,TO,i1,i2] z (λi h=>IsZip h z TI TO .none/\IsPair h TI (.ref i1) (.ref i2)/\(∃a b,IsPair h TO a b)/\jX k1 h i1 j i/\jX k2 h i2 f i) where
 mem:=H9
 obj:=λi h st b hb=>by
  obtain⟨hz,d,⟨a,c,g⟩,O,U⟩:=st;simp at hb;rcases hb with rfl|rfl|rfl|rfl|rfl
  .simp_all
  .simp_all
  .simp_all
  .exact O.ob
  .exact U.ob
 keep:=λi h h' st k=>by
  obtain⟨hz,d,⟨a,c,g⟩,O,U⟩:=st;exact⟨k z H9 _ hz,k TI H9 _ d,⟨a,c,k TO H9 _ g⟩,O.upon λo e=>k i1 H9 o e,U.upon λo e=>k i2 H9 o e⟩
 item:=by
  intro X n hw p hc i af s σ H E I hf st r;subst n hw p;obtain⟨hz,d,⟨a,c,g⟩,O,U⟩:=st;obtain⟨xs,ys,x,y,m,q2,hx,hy⟩:=r;obtain⟨its,t,A,F⟩:=m.vals I;obtain⟨G,B,p2,J⟩:=q2.vals I;obtain⟨u,hu,ru⟩:=t.get hx;obtain⟨v,hv,L⟩:=B.get hy;have l:s.TypeIs (.ref z) "zip":=⟨_,hz,rr⟩;have fresh:H s.z=none:=I.hok.fresh (vT _);have lt:∀ {c o},s.heap.get? c=some o->c≠s.z:=λe=>vS (vX e);have l1:i1≠s.z:=by obtain⟨o,e,_⟩:=O.ob;exact lt e
  have l2:i2≠s.z:=by obtain⟨o,e,_⟩:=U.ob;exact lt e
  unfold pyNext;refine wX (wpAny_attempt (wpAny_callSpecial?_slot (name:=Str.ofString "__next__") l slot_zip_next (wpAny_call_entry slot_zip_next l entry_zip_next (yn D m1 m2 hz d g O U A p2 (by simpa using hu) (by simpa using hv) λh' b1 b2 b3 b4 N Y bk=>wY ?_) (args_zip_next_1 _))));refine⟨_,rr,wpAny_letOwnedTupleGo_zip (s:={ s with heap:=h' }) b1 λh2 Q s2=>?_⟩;have M:Heap.SameBut z h' h2:=s2;have R:∀b o,b∉[z,TI,TO,i1,i2]->s.heap.get? b=some o->h2.get? b=some o:=λb o hb e=>
   M.extBut _ _ (λq=>hb (by simp[q])) (bk b o (λq=>hb (by simp[q])) (λq=>hb (by simp[q])) (λq=>hb (by simp[q])) (λq=>hb (by simp[q])) e)
  have S:s.z≠z:=(lt hz).symm;have new:bf X.prog X.w (upd H s.z (.tup [x,y])) h2 s.z (.tup [x,y]):=⟨by show 2<=sizeLine;decide,[u,v],.cons ru (.cons L .nil),⟨_,M.extBut _ _ S N,rr,_,rr⟩⟩;refine⟨.ref s.z,upd H s.z (.tup [x,y]),?_,rr,⟨_,x,y,rr,fresh,rr,λzs hq=>by rw[ln.inj I hq m];exact hx,λzs hq=>by rw[ln.inj I hq q2];exact hy⟩,?_,λb hb=>?_⟩
  .exact Cj (s:=s) (t':=s.toks) I hf R (vT _) new
  .exact⟨Q,M.extBut _ _ D.tz (bk _ _ D.tz D.to D.ta D.tb d),⟨_,_,M.extBut _ _ D.oz b2⟩,b3.upon λo e=>M.extBut _ _ D.az e,b4.upon λo e=>M.extBut _ _ D.bz e⟩
  .have V:b≠s.z:=by
    grind
   rw[a5 V];exact(hf b hb).1
 done:=by
  intro X n hw p hc i af s σ H E I hf st r;subst n hw p;obtain⟨hz,d,⟨a,c,g⟩,O,U⟩:=st;obtain⟨xs,ys,m,q2,hl⟩:=r;obtain⟨its,t,A,F⟩:=m.vals I;obtain⟨G,B,p2,J⟩:=q2.vals I;have l:s.TypeIs (.ref z) "zip":=⟨_,hz,rr⟩;have n1:=t.length;have n2:=B.length;unfold pyNext;refine wX (wpAny_attempt (wpAny_callSpecial?_slot (name:=Str.ofString "__next__") l slot_zip_next (wpAny_call_entry slot_zip_next l entry_zip_next (Ci (I.ok.hd hc) D m1 m2 hz d g O U A p2 (hl.imp (λq=>by simp;lia) λq=>by simp;lia) λh' x hk hX=>?_) (args_zip_next_1 _))));obtain⟨o,W,co⟩:=hX;refine wX (wpAny_isInstance (T:="StopIteration") (b:=true) ⟨o,W,co⟩ isSubtype_stop (wY ⟨rr,?_⟩));exact jZ (t':=s.toks) I hf λb o hb e=>hk b o (λq=>hb (by simp[q])) (λq=>hb (by simp[q])) (λq=>hb (by simp[q])) (λq=>hb (by simp[q])) e
 self:=λ_ _ _ _ _ st h=>wpAny_pyIter_zip st.1 h
section
variable {X:Cx}{a b e:Expr}{pos:Pos}{p:Pos}
def OL:bootBuiltins "zip" = some (.type "zip"):=I9
def Vc (K:Frag)(ta:TA):TI:=λσ H R=>ta σ H λvs M=>∃(k1 k2:Bool)(l1 l2:Addr)(xs ys:LV),vs=[.ref l1,.ref l2]/\ln k1 K M l1 xs/\ln k2 K M l2 ys/\R (XT K k1 k2 l1 l2) M
def QZ {es:QD}{i:Nat}{pt:Pos}{ta:TA}(j:Gl X "zip")(hm:X.mg "zip" = none)(ha:PA X [a,b] ta)(hs:starEach [a,b] X.env=[(false,eval a X.env),(false,eval b X.env)]:=by rfl)(U:starEach [b] X.env=[(false,eval b X.env)]:=by rfl):
  PI X (.Tuple es i pt) (.Call (.Name "zip" p) [a,b] [] pos) (Vc X.K ta):=by
 intro af s σ H R I h;refine Call_ (fz I j hm OL (PyProof.Rows.callWith_type1 (bI (ha _ _ s σ H _ I h) λus s1 ⟨vs,k,c,m,o⟩=>?_) (by rw[hs,U]) (by rw[U];rfl)));obtain⟨k1,k2,l1,l2,xs,ys,rfl,h1,h2,q⟩:=o;obtain⟨x,y,rfl,r,t⟩:=m.two;cases r
 cases t
 obtain⟨its,z,d,A⟩:=h1.vals c;obtain⟨B,C,p2,E⟩:=h2.vals c;have FF:=d.lt;have M:=p2.lt;refine Ch d p2 λh' f c2 c3 u v w=>?_;have D:ZApart (s1.z+4) (s1.z+2) (s1.z+3) s1.z (s1.z+1):=by
  constructor<;>(simp)
 have O:∀ {l:Addr}(n:Nat),l<s1.z->l≠s1.z+n:=λn hl=>vS (vQ hl (Nat.le_add_right _ n));refine wpAny_pyIter_zip f ⟨s1.z+4,[s1.z+4,s1.z+2,s1.z+3,s1.z,s1.z+1],_,_,k,rr,c.kept w,
  GJ D ⟨O 4 FF,O 3 FF,O 0 FF⟩ ⟨O 4 M,O 3 M,O 0 M,O 1 M⟩,⟨f,c2,⟨_,_,c3⟩,u,v⟩,λb hb=>?_,q⟩
 have g:s1.z<=b:=by
  grind
 exact c.fpOk g (c.hok.fresh g)
noncomputable def hV (xs ys:LD):LD:=List.zipWith (λx y=>.tup [x,y]) xs ys
@[simp] def GK (fa M:FE):FA:=λρ=>(fa ρ).bind λx=>(M ρ).bind λy=>(fm x.1).bind λxs=>(fm y.1).map λys=>hV xs ys
def yo {K:Frag}{B:Hp}{v:V}{d:D}{ds:LD}(h:Is K B v d)(e:fm d=some ds):∃k a vs,v=.ref a/\ln k K B a vs/\IsL K B vs ds:=by
 cases h with
 |tup M hl=>cases e;exact⟨false,_,_,rr,M,hl⟩
 |lst M hl=>cases e;exact⟨true,_,_,rr,M,hl⟩
 |_=>cases e
def Ra {H s}(I:Inv X af σ H s)(h1:ln k1 X.K N l1 vs)(i1:IsL X.K N vs ds)(h2:ln k2 X.K N l2 ws)(i2:IsL X.K N ws es):lU X.K (XT X.K k1 k2 l1 l2) N (hV ds es):=by
 intro i H' M;have n1:=i1.length;have n2:=i2.length;refine⟨λd ed=>?_,λhl=>⟨vs,ws,h1.same M,h2.same M,?_⟩⟩
 .unfold hV at ed;rw[List.getElem?_zipWith]at ed;cases O:ds[i]? with
  |none=>rw[O]at ed;simp at ed
  |some x=>
   cases e2:es[i]? with
   |none=>rw[O,e2]at ed;simp at ed
   |some y=>
    rw[O,e2]at ed;simp at ed;subst ed;obtain⟨v,ev,iv⟩:=i1.get O;obtain⟨w,c,h⟩:=i2.get e2;refine⟨⟨vs,ws,v,w,h1.same M,h2.same M,ev,c⟩,λr H2 hy=>?_⟩;obtain⟨T,k,l,rfl,j,rfl,f1,f2⟩:=hy;have f:=f1 vs (h1.same M);have g:=f2 ws (h2.same M);rw[ev]at f;cases f;rw[c]at g;cases g;have U:=Ext.laid (o:=.tup [v,w]) M j;exact⟨_,U,.tup (gF.of au) (.cons (iv.mono U.bn) (.cons (h.mono U.bn) .nil))⟩
 grind[hV]
def Rb {es:QD}{g:Nat}{pt:Pos}{fa f:FE}(hm:X.mg "zip" = none)(ha:JE X a fa)(hb:JE X b f)(h:Gl X "zip")(hs:starEach [a,b] X.env=[(false,eval a X.env),(false,eval b X.env)])(O:starEach [b] X.env=[(false,eval b X.env)]):
  JI X (.Tuple es g pt) (.Call (.Name "zip" p) [a,b] [] pos) (GK fa f):=by
 intro af s σ H R I q;refine QZ h hm (gG ha (gG hb ng O) (by rw[hs,O])) hs O _ s σ H R I ?_;obtain⟨B,ρ,ds,i,r,M,q⟩:=q;obtain⟨j,ex,M⟩:=oX M;obtain⟨k,l,M⟩:=oX M;obtain⟨xs,U,M⟩:=oX M;obtain⟨ys,m,M⟩:=oY M;subst M;refine⟨B,ρ,[j.1,k.1],i,r,by simp[ex,l],λvs n N1 c i1=>?_⟩;cases i1 with
 |cons o d=>
  cases d with
  |cons d t=>
   cases t
   obtain⟨k1,l1,us,rfl,s1,m1⟩:=yo o U;obtain⟨k2,l2,ws,rfl,s2,m2⟩:=yo d m;exact⟨k1,k2,l1,l2,us,ws,rr,s1.same c.nh,s2.same c.nh,q _ n N1 c (Ra I s1 m1 s2 m2)⟩
end
noncomputable def unown1 (ρ:Env)(i:Nat):Env:=match ρ[i]? with
 |some (some (d,true))=>ρ.set i (some (d,false))
 |_=>ρ
def cQ.unown1 {K:Frag}{B0 H0 N H:Hp}{σ:St}{ρ:Env}(s:cQ K B0 H0 N H σ ρ)(i:Nat):cQ K B0 H0 N H σ (unown1 ρ i):=by
 unfold DL.unown1;split
 .rename_i d hd;obtain⟨a,ob,h1,h2,h3,h4⟩:=s.ow i d hd;have get:∀ {j:Nat}{e:D}{b:Bool},(ρ.set i (some (d,false)))[j]? = some (some (e,b))->(i=j/\e=d/\b=false)\/(i≠j/\ρ[j]? = some _):=λq=>by
   rcases bG q with⟨z,p⟩|⟨z,p⟩
   .cases p;exact .inl ⟨z,rr,rr⟩
   .exact .inr ⟨z,p⟩
  have o:∀c,own σ (ρ.set i (some (d,false))) c->own σ ρ c/\c≠a:=λc ⟨j,e,O,q2⟩=>by
   rcases get O with⟨_,_,z⟩|⟨ne,q⟩
   .cases z
   .exact⟨⟨j,e,q,q2⟩,λz=>by subst z;exact ne (s.inj i j _ _ _ hd q h1 q2)⟩
  have c:aH (df N (own σ ρ)) _:=dr λb u e q=>⟨e,λz=>q (o b z).1⟩;have U:=λz=>(o a z).2 rr;refine⟨s.bh,s.tb,s.ext,by rw[length_set];exact s.len,λj e q=>?_,λj e q=>?_,λj k b e f q M g h=>?_⟩
  .rcases get q with⟨rfl,rfl,_⟩|⟨_,q⟩
   .exact⟨_,h1,(h4.mono c).is (by rw[cf U];exact h2)⟩
   .obtain⟨v,k1,k2⟩:=s.sh j e q;exact⟨v,k1,k2.mono c⟩
  .rcases get q with⟨_,_,z⟩|⟨_,q⟩
   .cases z
   .obtain⟨l,o',k1,k2,k3,k4⟩:=s.ow j e q;exact⟨l,o',k1,k2,k3,k4.mono c⟩
  .rcases get q with⟨_,_,z⟩|⟨_,q⟩
   .cases z
   .rcases get M with⟨_,_,z⟩|⟨_,M⟩
    .cases z
    .exact s.inj j k b e f q M g h
 .exact s
@[simp] noncomputable def Vd (is:LN)(g:FS):FS:=λρ=>g (is.foldl unown1 ρ)
theorem cQ.unowns {K:Frag}{B0 H0 N H:Hp}{σ:St}:∀(is:LN){ρ:Env},cQ K B0 H0 N H σ ρ->cQ K B0 H0 N H σ (is.foldl DL.unown1 ρ)
 |[],_,s=>s
 |i::is,_,s=>cQ.unowns is (s.unown1 i)
def Rc {K:Frag}{is:LN}{g:FS}{E:Ends}{σ:St}{H:Hp}(q:mR K (Vd is g) E σ H):mR K g E σ H:=by
 obtain⟨B0,H0,ρ,r,⟨N,s⟩,e,p⟩:=q;exact⟨B0,H0,_,r,⟨N,s.unowns is⟩,e,p⟩
def Ve {X:Cx}{st:Stmt}{g:FS}(is:LN)(h:JS X st g):JS X st (Vd is g):=PS.to h λ_ _ _ q=>Rc q
@[simp] def OM:FS:=λρ=>some (.ct ρ)
@[simp] def qh:FS:=λ_=>none
section
variable {X:Cx}{pos:Pos}
def M5:JS X (.Continue pos) OM:=PS.to xI λE σ H q=>by
 obtain⟨B0,H0,ρ,r,s,e,p⟩:=q;cases e
 exact p σ H s
def GL {st:Stmt}:JS X st qh:=λaf s σ H E I q=>by
 obtain⟨B0,H0,ρ,r,_,e,_⟩:=q;cases e
end
inductive CRows (K:Frag)(P:Params):List DictEntry->List (Str×D)->Prop where
 |nil:CRows K P [] []
 |tup {x:Str}{t:Tok}{h:Int}{a:Addr}{its:Array Value}{n:Nat}{mS:Array (Option Value)}{ds:List D}{r:List DictEntry}{a8:List (Str×D)}(hh:h=PyData.keyHash P x)
   (l:K.lookup a=some ⟨.type "tuple",none,.seq its n,mS⟩) (f:(decide (its.size<=1000) && iK its.toList ds)=true) (tl:CRows K P r a8):CRows K P (⟨h,.str x t,.ref a⟩::r) ((x,.tup ds)::a8)
 |flat {x:Str}{t:Tok}{h:Int}{u:Value}{d:D}{r:List DictEntry}{a8:List (Str×D)}(hh:h=PyData.keyHash P x) (f:wu u d=true) (tl:CRows K P r a8):CRows K P (⟨h,.str x t,u⟩::r) ((x,d)::a8)
theorem CRows.lit {K:Frag}{P:Params}:∀ {es:List DictEntry}{a8:List (Str×D)},CRows K P es a8->PySem.W.KeysLit P es
 |_,_,.nil=>trivial
 |_,_,.tup hh _ _ tl=>⟨⟨_,_,rr,hh⟩,tl.lit⟩
 |_,_,.flat hh _ tl=>⟨⟨_,_,rr,hh⟩,tl.lit⟩
theorem CRows.find {K:Frag}{P:Params}(y:Str):∀ {es:List DictEntry}{a8:List (Str×D)},CRows K P es a8->match a8.lookup y with
  |none=>es.find? (λe=>Value.isStrOf y e.key)=none
  |some d=>∃e v,es.find? (λe=>Value.isStrOf y e.key)=some e/\aF v e.val/\∀B,Is K B v d
 |_,_,.nil=>rr
 |_,_,.tup (x:=x) (t:=t) (a:=a) (ds:=ds) hh l f tl=>by
  by_cases e:y=x
  .subst e;rw[List.lookup_cons_self];rw[vC]at f;obtain⟨vs,r,i⟩:=iL (K:=K) f.2;exact⟨_,.ref a,List.find?_cons_of_pos (by simp[Value.isStrOf]),rr,λB=>.tup (.inr ⟨_,_,_,l,rr,rr,le_of_lt (lt_of_le_of_lt (xy f.1) O9),r⟩) (i B)⟩
  .have M:=tl.find y;rw[lookup_cons,beq_eq_false_iff_ne.mpr e];have O:Value.isStrOf y (Value.str x t)=false:=by
    rw[Bool.eq_false_iff];intro z;obtain⟨t',q⟩:=Value.isStrOf_shape z;simp_all
   simp only[find?_cons,O];exact M
 |_,_,.flat (x:=x) (t:=t) (u:=u) (d:=d) hh f tl=>by
  by_cases e:y=x
  .subst e;rw[List.lookup_cons_self];obtain⟨v,b,_⟩:=jW (K:=K) (B:=λ_=>none) f;refine⟨_,v,List.find?_cons_of_pos (by simp[Value.isStrOf]),b,λB=>?_⟩;obtain⟨c,U,h⟩:=jW (K:=K) (B:=B) f;have:c=v:=by have g:=b.abs;rw[U.abs]at g;simp_all
   simp_all
  .have M:=tl.find y;rw[lookup_cons,beq_eq_false_iff_ne.mpr e];have O:Value.isStrOf y (Value.str x t)=false:=by
    rw[Bool.eq_false_iff];intro z;obtain⟨t',q⟩:=Value.isStrOf_shape z;simp_all
   simp only[find?_cons,O];exact M
def ma (K:Frag)(P:Params)(a:Addr)(a8:List (Str×D)):Prop:=∃es n,K.lookup a=some ⟨.type "dict",none,.dict es n,#[]⟩/\CRows K P es.toList a8/\(a == sysModules)=false
def const_dict {K:Frag}{P:Params}{y:Str}{a:Addr}{es:Array DictEntry}{n:Nat}{a8:List (Str×D)}(e:nsIn K mainGlobals y=some (some (.ref a)))(l:K.lookup a=some ⟨.type "dict",none,.dict es n,#[]⟩)(r:CRows K P es.toList a8)(s:(a == sysModules)=false):
  ∃a,nsIn K mainGlobals y=some (some (.ref a))/\ma K P a a8:=⟨a,e,es,n,l,r,s⟩
section
variable {X:Cx}{a b e:Expr}{pos:Pos}{x:Str}{p:Pos}
def ma.map {af:AO}{σ:St}{H:Hp}{s:Shared}{d:Addr}{a8:List (Str×D)}(I:Inv X af σ H s)(h:ma X.K X.w.params d a8):∃f:SV,s.heap.MapOf (strKind X.prog X.w) d f/\(d == sysModules)=false /\
  ∀y,match a8.lookup y with|none=>f y=none|some dd=>∃u v,f y=some u/\aF v u/\∀B,Is X.K B v dd:=by
 obtain⟨es,n,l,r,M⟩:=h;refine⟨_,PySem.W.mapOf_K I.kIn l r.lit,M,λy=>?_⟩;have:=r.find y;have O:findBy Value.isStrOf es y=(es.toList.find? λe=>Value.isStrOf y e.key).map (·.val):=by
  simp_all[findBy]
 cases hl:a8.lookup y with
 |none=>simp_all
 |some dd=>
  rw[hl]at this;obtain⟨en,v,U,e2,c⟩:=this;exact⟨en.val,v,by rw[O,U];rfl,e2,c⟩
@[simp] noncomputable def yp (a8:List (Str×D)):D->OB
 |.str y=>(a8.lookup y).map λd=>(d,false)
 |_=>none
@[simp] noncomputable def AF (a8:List (Str×D)):D->OB
 |.str y=>some (.bl (!(a8.lookup y).isSome),false)
 |_=>none
def M6 (h:∃d,X.mg x=some (.ref d)/\ma X.K X.w.params d a8)(hb:JE X b f)(k:Gl X x)(hd:(x == ("__debug__" : Str))=false)(hs:lP b):JE X (.Subscript (.Name x p) b pos) (f1 (yp a8) f):=by
 obtain⟨d,hm,cd⟩:=h;have l:Gc X (λx y H Q=>∃z dd,x=.ref d/\y=.str z/\a8.lookup z=some dd/\∀v,(∀B,Is X.K B v dd)->Q v H):=by
  intro O U af s σ H x y v u Q I m n q hs;obtain⟨z,dd,rfl,rfl,o,q⟩:=q;cases m
  obtain⟨t,rfl⟩:=n;obtain⟨f,i,D,hf⟩:=cd.map I;have:=hf z;rw[o]at this;obtain⟨u,v,c,e2,A⟩:=this;exact tail_any i.typeIs slot_dict_getitem.lookup (wpAny_getItem_of (strKind_is X.prog X.w z t) i c ⟨v,H,I.tok _,e2,q v A⟩) hs
 refine PE.to (Gd l (p4 (v:=.ref d) k hm rr hd) hb hs) λσ H Q q=>?_;obtain⟨B,ρ,d',bb,C,r,M,q⟩:=q;obtain⟨g,ex,M⟩:=oX M;refine⟨B,ρ,g.1,g.2,C,r,ex,λv E N1 j i1 _=>?_⟩;obtain⟨xd,F⟩:=g;cases i1<;>try (simp[yp]at M;done)
 rename_i z _;obtain⟨dd,c,e2⟩:=oY M;cases e2
 exact⟨z,_,rr,rr,c,λv hv=>(q.into j).one j.nh (hv _)⟩
@[simp] noncomputable def M7:LD->OB
 |[.lst ds]=>some (.lst ds,true)
 |[.tup ds]=>some (.lst ds,true)
 |_=>none
@[simp] noncomputable def GN:LD->OB
 |[.lst ds]=>some (.tup ds,false)
 |[.tup ds]=>some (.tup ds,false)
 |_=>none
def Re:bg X (.type "list") (xA X.K M7):=by
 refine bg.to vw λxs H Q q=>?_;obtain⟨B,ds,d,bb,U,i,O,q⟩:=q;cases i with
 |nil=>simp at O
 |cons i1 i2=>
  cases i2 with
  |cons _ _=>cases i1<;>simp at O
  |nil=>
   cases i1<;>try (simp at O;done)
   .rename_i c vs es h hl;cases O
    refine⟨_,_,rr,.inr (aV U h),λl hp=>?_⟩;have M:=Ext.laid (o:=.lst vs) U hp;exact q _ _ _ M (.lst (fD.of au) (hl.mono M.bn)) λ_=>⟨_,_,_,rr,rr,hp,au,hl.mono M.bn⟩
   .rename_i c vs es h hl;cases O
    refine⟨_,_,rr,.inl (U.seq h),λl hp=>?_⟩;have M:=Ext.laid (o:=.lst vs) U hp;exact q _ _ _ M (.lst (fD.of au) (hl.mono M.bn)) λ_=>⟨_,_,_,rr,rr,hp,au,hl.mono M.bn⟩
def M8:bg X (.type "tuple") (xA X.K GN):=by
 refine bg.to tj λxs H Q q=>?_;obtain⟨B,ds,d,bb,M,i,O,q⟩:=q;cases i with
 |nil=>simp at O
 |cons i1 i2=>
  cases i2 with
  |cons _ _=>simp_all
  |nil=>
   cases i1<;>try (simp at O;done)
   .rename_i c vs es h hl;cases O
    exact⟨_,_,rr,.inr ⟨aV M h,q.one M (.tup h hl)⟩⟩
   .rename_i c vs es h hl;cases O
    refine⟨_,_,rr,.inl ⟨M.seq h,λl hp=>?_⟩⟩;have U:=Ext.laid (o:=.tup vs) M hp;exact q _ _ _ U (.tup (gF.of au) (hl.mono U.bn)) H9
end
section
variable {X:Cx}{a b e:Expr}{pos:Pos}{x:Str}{p:Pos}
@[simp] def M9 (i:Nat)(M O:FE):FS:=λρ=>match ρ[i]? with
 |some (some (.lst ds,true))=>(O ρ).bind λv=>(M ρ).bind λk=>match k.1 with
  |.int j=>(Gb ds.length j).bind λn=>if aO v.1=true then some (.nx (ρ.set i (some (.lst (ds.set n v.1),true))))else none
  |_=>none
 |_=>none
def Rf (hv:JE X e fv)(hk:JE X k fk)(d:X.N[i]? = some y)(O:Le X.env.scope y)(hd:(y == ("__debug__" : Str))=false)
  (f:(y == ("__classdict__" : Str))=false)
  (ha:∀v,assign (.Subscript (.Name y py) k pt) X.env v=(do
   let U <-holding [v] (eval (.Name y py) X.env)
   let iv <-holding [v,U] (eval k X.env)
   standAt pt
   holding [v,U,iv] (setItem U iv v)
   release [v,U,iv] []))
  (hs:swapsWithSole [.Subscript (.Name y py) k pt] e pos.line X.env=pure false) (hw:swappedStores [.Subscript (.Name y py) k pt] e X.env=pure none)
  (h1:(assignEach [.Subscript (.Name y py) k pt] X.env).map (·.2)=[assign (.Subscript (.Name y py) k pt) X.env]):JS X (.Assign [.Subscript (.Name y py) k pt] e pos) (M9 i fk fv):=by
 refine PS.to (PM hv (PL (jo d O hd f) hk Ge ha) hs hw h1) λE σ H q=>?_;obtain⟨B0,H0,ρ,r,⟨N,s⟩,M,p⟩:=q;unfold M9 at M;split at M
 .rename_i ds ei;obtain⟨v,ev,M⟩:=oX M;obtain⟨g,ek,M⟩:=oX M;obtain⟨kd,t⟩:=g;cases kd with
  |int j=>
   obtain⟨n,en,M⟩:=oX M;split at M
   .rename_i hn;cases M
    refine⟨N,ρ,v.1,v.2,s.ext.nh,s.rep,ev,λu w N1 h i1 _=>?_⟩;have s1:=s.grow h;obtain⟨l,vs,m,z,h1,h2,h3,h4⟩:=s1.owL i _ ei;refine⟨_,h1,N1,ρ,_,_,s1.ext.nh,s1.rep,ek,λkv H2 N2 c i2 _=>?_⟩;cases i2
    have s2:=s1.grow c;obtain⟨A,o,m,z,k1,k2,k3,k4⟩:=s2.owL i _ ei;cases z
    rw[h1]at k1;cases k1;exact⟨l,o,j,n,rr,rr,s2.ext.nh _ _ k2,by rw[k4.length];exact en,p σ _ ⟨_,s2.write ei h1 (IsL.set (s2.flat (i1.mono c.bn) hn) n k4)⟩⟩
   .cases M
  |_=>cases M
 simp_all
@[simp] def GO (i:Nat)(f:FE):FS:=λρ=>match ρ[i]? with
 |some (some (.lst ds,true))=>(f ρ).bind λx=>match x.1 with
  |.lst es=>if x.2=true/\aZ es=true/\ds.length+es.length<=sizeLine then some (.nx (ρ.set i (some (.lst (ds++es),true))))else none
  |_=>none
 |_=>none
def Rh (he:JE X e f)(g:X.N[i]? = some y)(hv:Le X.env.scope y)(hd:(y == ("__debug__" : Str))=false)
  (h:(y == ("__classdict__" : Str))=false)
  (O:attributeBase (.Name y py) "extend" X.env (eval (.Name y py) X.env)=eval (.Name y py) X.env)
  (j:((backTo b8 (starEach [e] X.env)).all (λx=>!x.1) && (backToKw b8 (keywordEach [] X.env)).all (λx=>x.1.isSome)
   && decide ([e].length+([]:List Keyword).length+(if([]:List Keyword).isEmpty then 0 else 1)<30))=true)
  (U:(cm.endLine == b8.line)=true) (hs:starEach [e] X.env=[(false,eval e X.env)]) (k:swapsWith (.Call (.Attribute (.Name y py) "extend" cm) [e] [] b8) none pos.line X.env=pure false):
  JS X (.Expr (.Call (.Attribute (.Name y py) "extend" cm) [e] [] b8) pos) (GO i f):=by
 refine PS.to (BK (xJ plainAttrs_list PySem.F.slot_list_extend PySem.F.type_list_extend DY (jo g hv hd h) (dB he f6 hs) O j U hs rr) k) λE σ H q=>?_;obtain⟨B0,H0,ρ,r,⟨N,s⟩,M,p⟩:=q;unfold GO at M;split at M
 .rename_i ds ei;obtain⟨v,ev,M⟩:=oX M;obtain⟨m,u⟩:=v;cases m with
  |lst es=>
   dsimp at M;split at M
   .rename_i hc;cases M
    obtain⟨l,vs,n,z,h1,h2,h3,h4⟩:=s.owL i _ ei;refine⟨_,h1,.inl ⟨rr,vs,fD.of (s.ext.nh _ _ h2)⟩,N,ρ,_,_,s.ext.nh,s.rep,ev,λw A N1 c i1 f1=>?_⟩;obtain⟨l2,ws,B,rfl,z,g1,o,d⟩:=f1 hc.1;cases z
    have s1:=s.grow c;obtain⟨C,t,n,z,k1,k2,_,k4⟩:=s1.owL i _ ei;cases z
    rw[h1]at k1;cases k1;exact⟨l,l2,t,ws,rr,rr,s1.ext.nh _ _ k2,c.nh _ _ o,by rw[k4.length,d.length];exact hc.2.2,p σ _ ⟨_,s1.write ei h1 (k4.append (s1.flats d hc.2.1))⟩⟩
   .cases M
  |_=>cases M
 simp_all
@[simp] noncomputable def Vf:LD->OB
 |[.int i]=>some (.int i,false)
 |[.bl b]=>some (.int (if b then 1 else 0),false)
 |_=>none
def Vg:bg X (.type "int") (xA X.K Vf):=by
 refine bg.to DU λxs H Q q=>?_;obtain⟨B,ds,d,bb,O,i,M,q⟩:=q;cases i with
 |nil=>simp at M
 |cons i1 i2=>
  cases i2 with
  |cons _ _=>cases i1<;>simp at M
  |nil=>
   cases i1<;>try (simp at M;done)
   .cases M
    exact .inr ⟨_,rr,q.one O (.int _)⟩
   .cases M
    exact .inl ⟨_,rr,q.one O (.int _)⟩
end
open AutoSeq1 (wpAny_loadPart')
noncomputable def ZJ (k:Bool):String:=if k=true then "list" else "tuple"
def yq (k:Bool)(l:Addr)(items:AV)(n:Nat)(M:Option Addr)(sl:Array (Option Value)):
  Meets (Builtin.«enumerate.__new__» ⟨[.type "enumerate",.ref l],[]⟩) (λ_ R s=>s.heap.get? l=some { cls:=.type (ZJ k),dict:=M,data:=.seq items n,slots:=sl } /\
   R (.ok (.ret (.ref (s.heap.push (M4 k l)).objs.size))) { s with heap:=(s.heap.push (M4 k l)).push { cls:=.type "enumerate",data:=.fields #[.none,.bool false,.ref s.z,rawInt 0,.none,.none] } }):=
 .of_wp λprog w A R s hs=>by
  obtain⟨hp,g,d,tk,os⟩:=s;obtain⟨hl,hs⟩:=hs;have U:=sub_enumerate;have O:jY k (Shared.heap ⟨hp,g,d,tk,os⟩) l items:=by cases k<;>exact⟨_,hl,rr,n,rr⟩
  wp_walk using wpAny_loadPart' hl;refine wpAny_stack_any λst=>wY ?_;split
  .rename_i c _ _ _ _ _;cases (c == Value.type _)
   .wp_walk using wpAny_loadPart' hl,lZ O;exact⟨_,rr,hs⟩
   .wp_walk using wpAny_loadPart' hl,lZ O;exact⟨_,rr,hs⟩
  .wp_walk using wpAny_loadPart' hl,lZ O;exact⟨_,rr,hs⟩
section
variable {prog:Program}{w:World}{A:Around}{E:QV}{s:Shared}
def GP (U:jY k s.heap l items)
  (q:∀h',IsEnum h' (s.z+1) s.z 0 .none->jX k h' s.z l 0->(∀b o,s.heap.get? b=some o->h'.get? b=some o)->Q (.ref (s.z+1)) { s with heap:=h' }):
  wpAny (model prog w) A (call (.type "enumerate") [.ref l]) Q E s:=by
 have hh:∃(M:Option Addr)(sl:Array _)(n:Nat),s.heap.get? l=some { cls:=.type (ZJ k),dict:=M,data:=.seq items n,slots:=sl }:=by
  cases k<;>(obtain⟨⟨c,M,dt,sl⟩,hl,hc,n,hd⟩:=U;subst hc;subst hd;exact⟨M,sl,n,hl⟩)
 obtain⟨M,sl,n,hl⟩:=hh;refine callType_new PySem.F.called_enumerate O9 (PySem.F.typeCall_enumerate_1 _) (PySem.F.newCall_enumerate_1 _) (λobj=>PySem.F.args_object_init_2 obj _) PySem.F.entry_enumerate_new (yq k l items n M sl) ⟨hl,?_⟩;have n1:(s.heap.push (M4 k l)).objs.size=s.z+1:=Heap.size_push ..;have O:((s.heap.push (M4 k l)).push { cls:=.type "enumerate",data:=.fields #[.none,.bool false,.ref s.z,rawInt 0,.none,.none] }).get? _=some _:=vY _ rr;have g1:((s.heap.push (M4 k l)).push { cls:=.type "enumerate",data:=.fields #[.none,.bool false,.ref s.z,rawInt 0,.none,.none] }).get? _=some _:=vZ _ (vY _ (by cases k<;>rfl))
 rw[n1]at O;rw[n1];refine⟨⟨_,O,rr⟩,q _ O ?_ λb o e=>vZ _ (vZ _ e)⟩;cases k<;>exact⟨_,g1,rr,rr⟩
def Ri (b:A.handled=none)(it l:Addr)(M:l≠it)(items:AV):Draws prog w A it [it,l] items.size (λi v=>items[i]? = some v) (λi h=>jX k h it l i/\jY k h l items) where
 live:=λi h st=>let ⟨o,e,_⟩:=st.1.ob;⟨o,e⟩
 frame:=λi h h' st U=>⟨st.1.upon λo e=>U it H9 o e,st.2.upon λo e=>U l H9 o e⟩
 item:=λi s Q E hi st q=>eF st.1 st.2 (v:=items[i]) (by simp ) λh' O a=>q _ h' _ (by simp ) ⟨O,st.2.upon λo e=>a.extBut _ _ M e⟩ a
 done:=λs Q E st q=>hU b st.1 st.2 H9 q
def Rk (O:A.handled=none)(it l:Addr)(items:AV)(n:Nat)(hn:items[n]? = none):Draws prog w A it [it,l] n (λ_ _=>True) (λi h=>(jX k h it l i/\jY k h l items)/\i=n) where
 live:=λi h st=>let ⟨o,e,_⟩:=st.1.1.ob;⟨o,e⟩
 frame:=λi h h' st M=>⟨⟨st.1.1.upon λo e=>M it H9 o e,st.1.2.upon λo e=>M l H9 o e⟩,st.2⟩
 item:=λi s Q E hi st q=>absurd st.2 (vS hi)
 done:=λs Q E st q=>hU O st.1.1 st.1.2 hn q
end
noncomputable def XU (K:Frag)(k:Bool)(a:Addr):It:=
  ⟨λi H=>∃xs x,ln k K H a xs/\xs[i]? = some x,
   λi H v H'=>∃T x,v=.ref T/\H T=none/\H'=upd H T (.tup [.int i,x])/\∀xs,ln k K H a xs->xs[i]? = some x,
   λi H=>∃xs,ln k K H a xs/\xs.length<=i⟩
def En {P:Program}{w:World}{K:Frag}{es:QD}{B:Nat}{pt:Pos}{k:Bool}{a e it:Addr}(U:e≠it)(f:a≠e)(g:a≠it):
  Turn P w K (.Tuple es B pt) (XU K k a) [e,it] e (λi h=>(∃M,IsEnum h e it i M)/\jX k h it a i) where
 mem:=H9
 obj:=λi h st b hb=>by
  obtain⟨⟨M,he⟩,O⟩:=st;simp at hb;rcases hb with rfl|rfl
  .simp_all
  .exact O.ob
 keep:=λi h h' st c=>by
  obtain⟨⟨M,he⟩,O⟩:=st;exact⟨⟨M,c e H9 _ he⟩,O.upon λo q=>c it H9 o q⟩
 item:=by
  intro X j hw l hc i af s σ H E I hf st m;subst j hw l;obtain⟨⟨M,he⟩,O⟩:=st;obtain⟨xs,x,d,hx⟩:=m;obtain⟨its,n,p,C⟩:=d.vals I;obtain⟨u,hu,ru⟩:=n.get hx;have fresh:=I.hok.fresh (vT _);have r:i<its.toArray.size:=by rw[vH];exact(vV hu).1
  have y:e≠s.z:=vS (vX he);have D:it≠s.z:=by obtain⟨o,q,_⟩:=O.ob;exact vS (vX q)
  refine wpAny_pyNext_enum_itemD (Ri (A:=X.A.in1) (I.ok.hd hc) it a g its.toArray) he ⟨O,p⟩ r U (by simp[U,f.symm]) λv h' tk hv ho F G hsz hk=>?_;have ev:v=u:=by
   simp_all
  subst ev;refine⟨_,rr,wpAny_letOwnedTupleGo_enum ho λh2 J s2=>?_⟩;have t:Heap.SameBut e h' h2:=s2;have c:∀b o,b∉[e,it]->s.heap.get? b=some o->h2.get? b=some o:=λb o hb q=>t.extBut _ _ (λz=>hb (by simp[z])) (hk b o (λz=>hb (by simp[z])) (λz=>hb (by simp[z])) q);have new:bf X.prog X.w (upd H s.z (.tup [.int i,x])) h2 s.z (.tup [.int i,x]):=⟨by show 2<=sizeLine;decide,[.int i tk,v],.cons ⟨tk,rr⟩ (.cons ru .nil),⟨_,t.extBut _ _ y.symm G,rr,_,rr⟩⟩;refine⟨.ref s.z,upd H s.z (.tup [.int i,x]),Cj (s:=s) (t':=tk+1) I hf c (vT _) new,rr,⟨_,x,rr,fresh,rr,λzs hq=>by rw[ln.inj I hq d];exact hx⟩,?_,λb hb=>?_⟩
  .exact⟨⟨_,by have:=J;exact this⟩,F.1.upon λo q=>t.extBut _ _ U.symm q⟩
  .have L:b≠s.z:=by
    simp at hb;rcases hb with rfl|rfl
    .exact y
    .exact D
   rw[a5 L];exact(hf b hb).1
 done:=by
  intro X j hw l hc i af s σ H E I hf st m;subst j hw l;obtain⟨⟨M,he⟩,O⟩:=st;obtain⟨xs,d,hl⟩:=m;obtain⟨its,n,p,C⟩:=d.vals I;have n1:=n.length;refine wpAny_pyNext_enum_endD (Rk (A:=X.A.in1) (I.ok.hd hc) it a its.toArray i s9) he ⟨⟨O,p⟩,rr⟩ λh' hk=>⟨rr,?_⟩;exact jZ (t':=s.toks) I hf λb o hb q=>hk b o (λz=>hb (by simp[z])) q
 self:=λ_ _ _ _ _ st h=>let ⟨⟨_,he⟩,_⟩:=st;wpAny_pyIter_enum he h
section
variable {X:Cx}{a b e:Expr}{pos:Pos}{p:Pos}
def yr:bootBuiltins "enumerate" = some (.type "enumerate"):=I9
noncomputable def tY (ds:LD):LD:=ds.mapIdx λi d=>.tup [.int i,d]
@[simp] def GQ (fa:FE):FA:=λρ=>(fa ρ).bind λx=>(fm x.1).map tY
def MA {K:Frag}{N:Hp}{k:Bool}{l:Addr}{vs:LV}{ds:LD}(h1:ln k K N l vs)(i1:IsL K N vs ds):lU K (XU K k l) N (tY ds):=by
 intro i H' M;have n1:=i1.length;refine⟨λd ed=>?_,λhl=>⟨vs,h1.same M,?_⟩⟩
 .unfold tY at ed;rw[List.getElem?_mapIdx]at ed;obtain⟨x,c,rfl⟩:=oY ed;obtain⟨v,ev,iv⟩:=i1.get c;refine⟨⟨vs,v,h1.same M,ev⟩,λr H2 hy=>?_⟩;obtain⟨T,g,rfl,f,rfl,f1⟩:=hy;have O:=f1 vs (h1.same M);rw[ev]at O;cases O;have U:=Ext.laid (o:=.tup [.int i,v]) M f;exact⟨_,U,.tup (gF.of au) (.cons (.int _) (.cons (iv.mono U.bn) .nil))⟩
 simp_all[tY]
def MB {es:QD}{h:Nat}{pt:Pos}{fa:FE}(hm:X.mg "enumerate" = none)(ha:JE X a fa)(i:Gl X "enumerate")(hs:starEach [a] X.env=[(false,eval a X.env)]):
  JI X (.Tuple es h pt) (.Call (.Name "enumerate" p) [a] [] pos) (GQ fa):=by
 intro af s σ H R I q;refine Call_ (fz I i hm yr (PyProof.Rows.callWith_type1 (bI (gG ha ng hs _ _ s σ H (λvs M=>∃(k:Bool)(l:Addr)(us:LV),vs=[.ref l]/\ln k X.K M l us/\R (XU X.K k l) M) I ?_) λus s1 ⟨vs,M,c,j,m⟩=>?_) hs rr))
 .obtain⟨B,ρ,ds,n,r,O,q⟩:=q;obtain⟨o,ex,O⟩:=oX O;obtain⟨xs,t,O⟩:=oY O;subst O;refine⟨B,ρ,[o.1],n,r,by simp[ex],λvs M N1 d i1=>?_⟩;cases i1 with
  |cons u v=>
   cases v
   obtain⟨k1,l1,us,rfl,s1,m1⟩:=yo u t;exact⟨k1,l1,us,rr,s1.same d.nh,q _ M N1 d (MA s1 m1)⟩
 .obtain⟨k,l,ws,rfl,h1,q⟩:=m;obtain⟨y,rfl,w⟩:=j.one;cases w
  obtain⟨its,z,f,A⟩:=h1.vals c;have FF:=f.lt;refine GP f λh' g c2 x=>?_;refine wpAny_pyIter_enum g ⟨s1.z+1,[s1.z+1,s1.z],_,_,M,rr,c.kept x,
   En (Nat.succ_ne_self _) (vS (lt_succ_of_lt FF)) (vS FF),⟨⟨_,g⟩,c2⟩,λb hb=>?_,q⟩
  have U:s1.z<=b:=by
   grind
  exact c.fpOk U (c.hok.fresh U)
end
end DL
namespace DL
open PySem PySem.Spec PyProof.Rows
def jn (xs:Array Nat):Prop:=xs.toList.Pairwise (· < ·)
def jn.lt {xs:Array Nat}(h:jn xs){i j a b:Nat}(hi:xs[i]? = some a)(hj:xs[j]? = some b)(l:i<j):a<b:=by
 obtain⟨h1,M⟩:=Array.getElem?_eq_some_iff.mp hi;obtain⟨h2,e2⟩:=Array.getElem?_eq_some_iff.mp hj;have:=List.pairwise_iff_getElem.mp h i j (by simpa using h1) (by simpa using h2) l;simp_all
theorem qi {xs:Array Nat}(h:jn xs)(j:Nat):∀(fuel lo hi:Nat),hi<=xs.size->lo<=hi->hi - lo<=fuel->(∀i a,i<lo->xs[i]? = some a->a<j)->(∀i a,hi<=i->xs[i]? = some a->j<=a) ->
  (SetTable.below.go xs j fuel lo hi<=xs.size/\(∀i a,i<SetTable.below.go xs j fuel lo hi->xs[i]? = some a->a<j)/\∀i a,SetTable.below.go xs j fuel lo hi<=i->xs[i]? = some a->j<=a)
 |0,lo,hi,h1,h2,h3,h4,h5=>by
  have:lo=hi:=N9
  subst this;exact⟨h1,h4,h5⟩
 |fuel+1,lo,hi,h1,h2,h3,h4,h5=>by
  unfold SetTable.below.go;by_cases hl:lo<hi
  .rw[if_pos hl];have hm:(lo+hi) / 2<xs.size:=N9
   have M:xs[(lo+hi) / 2]? = some (xs.getD ((lo+hi) / 2) j):=by simp_all
   by_cases hc:xs.getD ((lo+hi) / 2) j<j
   .rw[if_pos hc];refine qi h j fuel _ _ h1 N9 N9 (λi a O ha=>?_) h5;by_cases hx:i=(lo+hi) / 2
    .simp_all
    .exact Nat.lt_trans (h.lt ha M N9) hc
   .rw[if_neg hc];refine qi h j fuel _ _ N9 N9 N9 h4 λi a O ha=>?_;by_cases hx:i=(lo+hi) / 2
    .rw[hx,M]at ha;lia
    .have:=h.lt M ha N9;lia
  .rw[if_neg hl];have:lo=hi:=N9
   subst this;exact⟨h1,h4,h5⟩
def qj {xs:Array Nat}(h:jn xs)(j:Nat):SetTable.below xs j<=xs.size/\(∀i a,i<SetTable.below xs j->xs[i]? = some a->a<j)/\∀i a,SetTable.below xs j<=i->xs[i]? = some a->j<=a:=
 qi h j _ 0 _ (vT _) (uN _) N9 (λ_ _ h=>absurd h (Nat.not_lt_zero _)) λi a h1 h2=>by
  simp_all
def AG {xs:Array Nat}(h:jn xs){i a:Nat}(e:xs[i]? = some a):SetTable.below xs (a+1)=i+1:=by
 obtain⟨h1,h2,h3⟩:=qj h (a+1);by_cases c:SetTable.below xs (a+1)<i+1
 .have:=h3 i a N9 e;lia
 .by_cases c2:i+1<SetTable.below xs (a+1)
  .obtain⟨b,hb⟩:∃b,xs[i+1]? = some b:=⟨_,Array.getElem?_eq_getElem N9⟩;have:=h2 _ b c2 hb;have:=h.lt e hb N9;lia
  simp_all<;>lia
def AH {xs:Array Nat}(h:jn xs):SetTable.below xs 0=0:=by
 obtain⟨h1,h2,_⟩:=qj h 0;by_cases c:0<SetTable.below xs 0
 .obtain⟨b,hb⟩:∃b,xs[0]? = some b:=⟨_,Array.getElem?_eq_getElem N9⟩;exact absurd (h2 0 b c hb) (Nat.not_lt_zero _)
 simp_all
def GS {xs:Array Nat}(h:jn xs){j:Nat}(hj:xs[SetTable.below xs j]? ≠ some j):jn (SetTable.insertAt xs (SetTable.below xs j) j):=by
 obtain⟨h1,h2,h3⟩:=qj h j;have e:(SetTable.insertAt xs (SetTable.below xs j) j).toList=xs.toList.take (SetTable.below xs j)++j::xs.toList.drop (SetTable.below xs j):=by
  simp_all[SetTable.insertAt,List.take_of_length_le]
 unfold jn;rw[e,List.pairwise_append,pairwise_cons];have lo:∀a∈xs.toList.take _,a<j:=λa ha=>by
  obtain⟨i,hi⟩:=mem_iff_getElem?.mp ha;rw[List.getElem?_take]at hi;split at hi
  .rename_i hl;exact h2 i a hl (by simpa using hi)
  .cases hi
 have M:∀a∈xs.toList.drop (SetTable.below xs j),j<a:=λa ha=>by
  obtain⟨i,hi⟩:=mem_iff_getElem?.mp ha;rw[List.getElem?_drop,Array.getElem?_toList]at hi;have h4:=h3 _ a N9 hi;rcases Nat.lt_or_eq_of_le h4 with h5|h5
  .exact h5
  .subst h5;by_cases h0:i=0
   .subst h0;exact absurd hi hj
   .obtain⟨b,hb⟩:∃b,xs[SetTable.below xs j]? = some b:=⟨_,Array.getElem?_eq_getElem (by have:=(Array.getElem?_eq_some_iff.mp hi).1;lia)⟩;have:=h3 _ b (vT _) hb;have:=h.lt hb hi N9;simp<;>lia
 refine⟨List.Pairwise.sublist (take_sublist _ _) h,⟨M,List.Pairwise.sublist (List.drop_sublist _ _) h⟩,λa ha b hb=>?_⟩;rcases vP hb with rfl|hb
 .exact lo a ha
 .exact Nat.lt_trans (lo a ha) (M b hb)
theorem lq {t:SetTable}{f:Nat->Int}{h:Int}:∀(fuel:Nat)(p:SetTable.Probe)(j:Nat)(d:Option Nat),(∀d,p.dummy=some d->t.place[SetTable.below t.place d]? ≠ some d)->SetTable.probe.go t f h fuel p=some (.empty j d)->t.place[SetTable.below t.place j]? ≠ some j/\∀e,d=some e->t.place[SetTable.below t.place e]? ≠ some e
 |0,_,_,_,_,h=>by simp[SetTable.probe.go]at h
 |fuel+1,p,j,d,hd,M=>by
  unfold SetTable.probe.go at M;cases hs:t.slot _ with
  |empty=>
   rw[hs]at M;cases M
   refine⟨λz=>?_,hd⟩;unfold SetTable.slot at hs;simp[z]at hs
  |dummy=>
   rw[hs]at M;refine lq _ _ j d (λe he=>?_) M;have:=by
    unfold SetTable.advance at he;split at he<;>exact(vK he).symm
   subst this;intro z;unfold SetTable.slot at hs;simp[z]at hs
  |live i=>
   rw[hs]at M;dsimp at M;split at M
   .cases M
   .refine lq _ _ j d (λe he=>hd e ?_) M;unfold SetTable.advance at he;split at he<;>exact he
def GU {t:SetTable}{h:Int}{j:Nat}{w:Bool}(e:t.freeSlot h=some (j,w)):t.place[SetTable.below t.place j]? ≠ some j:=by
 unfold SetTable.freeSlot at e;split at e
 .rename_i M d hp;obtain⟨h1,h2⟩:=lq _ _ _ _ (λd hd=>by cases hd) hp;cases e
  cases d with
  |none=>exact h1
  |some d=>exact h2 d rr
 simp_all
def iM (n:Nat):jn (Array.range n):=by simp_all[jn,List.pairwise_lt_range]
def Eo {c M U:Nat}{led pl:Bool}{O:Array Int}{t:SetTable}{o:Array Nat}(e:SetTable.laid c M U led pl O=some (t,o)):jn t.place:=by
 obtain⟨ow,_,e⟩:=oX e;cases e
 refine pairwise_map.mpr ?_;refine List.Pairwise.filterMap _ (λa b h x hx y hy=>?_) List.pairwise_lt_range;obtain⟨_,_,rfl⟩:=oY hx;obtain⟨_,_,rfl⟩:=oY hy;exact h
def Ep (t:SetTable)(es:Array (Int×Value))(n:Nat):(relayAll t es n).2.1.led=t.led:=by
 unfold relayAll;split
 .rename_i t' M h;obtain⟨ow,_,h⟩:=oX h;cases h
  dsimp ;split<;>rfl
 .rfl
def AI (t:SetTable)(es:Array (Int×Value))(n:Nat)(h:jn t.place):jn (relayAll t es n).2.1.place:=by
 unfold relayAll;split
 .rename_i t' M e;dsimp;split
  .exact Eo e
  .exact iM _
 .exact iM _
def GV (t:SetTable)(es:Array (Int×Value))(hh:Int)(x:Value)(h:jn t.place):jn (layNew t es hh x).2.1.place:=by
 unfold layNew;split
 .rename_i slot M e;dsimp [SetTable.orStandIn];repeat' (first|exact GS h (GU e)|exact iM _|split)
 .exact iM _
def MC (t:SetTable)(es:Array (Int×Value))(h:Int)(x:Value):(layNew t es h x).2.1.led=t.led:=by
 unfold layNew;split
 .dsimp [SetTable.orStandIn];repeat' (first|rfl|split)
 .rfl
structure TabT (w:World)(es:Array (Int×Value))(t:SetTable):Prop where
 fits:t.fits es.size=true
 led:t.led = !w.params.followText "set-order"
 rise:jn t.place
structure KOf {prog:Program}{w:World}{κ:Type}[DecidableEq κ](kd:PySem.KeyKind prog w κ)(kf:Value->κ)(mk:κ->Tok->Value):Prop where
 is:∀k t,kd.is k (mk k t)=true
 of:∀ {k v},kd.is k v=true->∃t,v=mk k t
 kf:∀k t,kf (mk k t)=k
 sc:∀k t,(mk k t).scannable=true
def hW {prog:Program}{w:World}{κ:Type}[DecidableEq κ](kd:PySem.KeyKind prog w κ)(kf:Value->κ)(h:Heap)(a:Addr)(M:List κ):Prop:=
 ∃o es O t,h.get? a=some o/\o.ExactSet/\o.data=.set es O t/\ElemsOf kd es.toList/\(es.toList.map (λe=>kf e.2)).Perm M/\M.Nodup/\M.length<scanBound/\TabT w es t
noncomputable def gQ {κ:Type}[DecidableEq κ](M:List κ)(x:κ):List κ:=if x∈M then M else M++[x]
theorem GW {κ:Type}[DecidableEq κ](M:List κ)(x:κ):(gQ M x).length<=M.length+1:=by unfold gQ;split<;>simp
section
variable {prog:Program}{w:World}{A:Around}{E:QV}{s:Shared}{κ:Type}[DecidableEq κ] {kd:PySem.KeyKind prog w κ}{kf:Value->κ}{mk:κ->Tok->Value}
def KOf.key (M:KOf kd kf mk)(h:kd.is k v=true):kf v=k:=by obtain⟨t,rfl⟩:=M.of h;exact M.kf _ _
def tZ (O:KOf kd kf mk){es:Array (Int×Value)}{U:List κ}(M:ElemsOf kd es.toList)(hp:(es.toList.map (λe=>kf e.2)).Perm U)(k:κ):k∈U ↔ ∃e∈es.toList,kd.is k e.2=true:=by
 rw[<-hp.mem_iff,List.mem_map];constructor
 .rintro⟨e,he,rfl⟩;obtain⟨⟨k',hk,_⟩,_⟩:=M e he;exact⟨e,he,by rw[O.key hk];exact hk⟩
 .rintro⟨e,he,hk⟩;exact⟨e,he,O.key hk⟩
def ua {h:Heap}{a:Addr}{o:Obj}{es:Array (Int×Value)}{O:Nat}{t:SetTable}(ho:h.get? a=some o)(hd:o.data=.set es O t)(M:Array (Int×Value))(t':SetTable):
  (h.update a (Obj.putSet M t')).get? a=some { o with data:=.set M (O+1) t' }:=by
 have:=Heap.get?_update_self (Obj.putSet _ t') ho (by rw[putSet_of M t' hd];rfl);rw[putSet_of _ t' hd]at this;exact this
def qk {g:Bool->Sem Unit}(C:∀(b:Bool)(c:Shared)(r:Unit->Shared->Prop),r () c->wpAny (model prog w) A (g b) r E c)
  {a:Addr}{o:Obj}{es:Array (Int×Value)}{D:Nat}{t:SetTable}(ho:s.heap.get? a=some o) (u:o.ExactSet) (hd:o.data=.set es D t)
  {M:Array (Int×Value)}{O:SetTable}{d:List κ}(v:ElemsOf kd M.toList) (j:(M.toList.map (λe=>kf e.2)).Perm d) (nd:d.Nodup)
  (hb1:d.length<scanBound) (k:O.fits M.size=true) (x:O.led = !w.params.followText "set-order") (y:jn O.place) {U:Bool}{R:Option Bool->Shared->Prop}
  (h:∀h',Heap.SameBut a s.heap h'->hW kd kf h' a d->R (some true) { s with heap:=h' }):
  wpAny (model prog w) A (do
    storeSet a M O
    if(!U && O.tooFull)=true then do
      g (relayAll O M (SetTable.grown M.size)).2.2
      storeSet a (relayAll O M (SetTable.grown M.size)).1 (relayAll O M (SetTable.grown M.size)).2.1
      pure (some true)
     else pure (some true)) R E s:=by
 have f:M.size=d.length:=by rw[<-j.length_eq,vI,vG]
 refine wX (wpAny_storeSet_of ho hd ?_ (fits_of_scanBound (by rw[f];exact hb1)));have l:=ua ho hd M O;have z:=vW s.heap a (Obj.putSet M O);split
 .have hp:=relayAll_perm O M (SetTable.grown M.size);have m:=relayAll_fits O M (SetTable.grown M.size);have n:=Ep O M (SetTable.grown M.size);have p:=AI O M (SetTable.grown M.size) y;generalize F:relayAll O M (SetTable.grown M.size)=Rl at hp m n p |-;obtain⟨i,B,G⟩:=Rl;dsimp only at hp m n p |-;have H:ElemsOf kd i.toList:=v.perm hp;have hsz:i.size=M.size:=by rw[<-vG,hp.length_eq,vG]
  refine wX (C _ _ _ ?_);refine wX (wpAny_storeSet_of l rr ?_ (fits_of_scanBound (by rw[hsz,f];exact hb1)));have q:=ua l rr i B;exact wY (h _ (z.trans (vW _ a _)) ⟨_,i,_,B,q,u,rr,H,(hp.map _).trans j,nd,hb1,m,n.trans x,p⟩)
 .exact wY (h _ z ⟨_,M,_,O,l,u,rr,v,j,nd,hb1,k,x,y⟩)
def AJ (f:KOf kd kf mk){a:Addr}{d:List κ}{k:κ}{tk:Tok}{Q:Bool->Shared->Prop}(hS:hW kd kf s.heap a d)(J:d.length+1<scanBound)
  (h:∀b h',Heap.SameBut a s.heap h'->hW kd kf h' a (gQ d k)->Q b { s with heap:=h' }):
  wpAny (model prog w) A (setAddHashed a (mk k tk) (kd.hash k)) Q E s:=by
 have hS0:=hS;obtain⟨o,es,R,t,ho,r,hd,l,M,nd,hb,hf,u,K⟩:=hS;have I:kd.is k (mk k tk)=true:=f.is k tk;have sz:es.size=d.length:=by rw[<-M.length_eq,vI,vG]
 refine wpAny_holding (wX (wpAny_setState_of ho hd hf ?_));dsimp only;rw[byScan_of (x:=mk k tk) (f.sc k tk) (by rw[sz];exact hb) l];simp only[↓reduceIte];unfold setAddByScan;refine wX ?_;refine wX (wpAny_rule ?_);refine wX (wpAny_setScan_of I ho hd hf l ?_);cases N:List.findIdx? (λe=>kd.is k e.2) es.toList with
 |some j=>
  dsimp only;obtain⟨hj,v,_⟩:=List.findIdx?_eq_some_iff_getElem.mp N;have hm:k∈d:=(tZ f l M k).mpr ⟨es.toList[j],getElem_mem hj,v⟩;refine wY (wY ?_);simp_all[gQ,Heap.SameBut.refl]
 |none=>
  dsimp only;have hm:k∉d:=λz=>by
   obtain⟨e,he,hp⟩:=(tZ f l M k).mp z;grind
  have P:gQ d k=d++[k]:=by unfold gQ;rw[if_neg hm]
  have B:∀(b:Bool){O:Shared}{g:Unit->Shared->Prop},g () O->wpAny (model prog w) A (match b with|true=>rule "set.scan.the-table-gave-way" | false=>pure ()) g E O:=
   λb O g hq=>by cases b<;>first|exact wY hq|exact wpAny_rule hq
  have U:=layNew_perm t es (kd.hash k) (mk k tk);have n:=layNew_fits t es (kd.hash k) (mk k tk);have p:=GV t es (kd.hash k) (mk k tk) K;have q:=MC t es (kd.hash k) (mk k tk);generalize S:layNew t es (kd.hash k) (mk k tk)=L at U n q p |-;obtain⟨m,T,V,W⟩:=L;rw[Array.toList_push]at U;have C:ElemsOf kd m.toList:=(l.push I (f.sc k tk)).perm U;have D:(m.toList.map (λe=>kf e.2)).Perm (d++[k]):=(U.map _).trans (by rw[uW,List.map_singleton,f.kf];exact M.append_right _);have F:(d++[k]).Nodup:=by
   rw[nodup_append];refine⟨nd,H9,λx hx y hy=>?_⟩;rw[mem_singleton]at hy;subst hy;exact λz=>hm (z ▸ hx)
  have hb1:(d++[k]).length<scanBound:=by rw[uZ];exact J
  refine wX (B _ ?_);have G:=λh' c i=>h true h' c (by rw[P];exact i);have H:∀(b:Bool)(O:Shared)(g:Unit->Shared->Prop),g () O->wpAny (model prog w) A (match b with|true=>rule "set.scan.the-table-gave-way" | false=>pure ()) g E O:=λb O g hq=>by cases b<;>first|exact wY hq|exact wpAny_rule hq
  split
  .refine wX ?_;rw[hashByValue_scannable 8 (x:=mk k tk) (f.sc k tk)];refine wY ?_;cases plainKind (mk k tk) with
   |false=>exact qk H ho r hd C D F hb1 (SetTable.fits_plain_off n) (q.trans u) p λh' c i=>wY (G h' c i)
   |true=>exact qk H ho r hd C D F hb1 n (q.trans u) p λh' c i=>wY (G h' c i)
  .exact qk H ho r hd C D F hb1 n (q.trans u) p λh' c i=>wY (G h' c i)
end
section
variable {κ:Type}[DecidableEq κ] {ts:List κ}{x y:κ}
def eB (ss:List κ):List κ:=ss.foldl gQ []
def qm (h:ts.Nodup)(x:κ):(gQ ts x).Nodup:=by
 grind[gQ]
def yt:y∈gQ ts x↔y∈ts\/y=x:=by
 unfold gQ;split
 .rename_i hm;exact⟨.inl,λz=>z.elim id λe=>e ▸ hm⟩
 .simp
def wv (ss:List κ):∀ts:List κ,(ss.foldl gQ ts).length<=ts.length+ss.length:=by
 induction ss with
 |nil=>simp
 |cons x r M=>grind[GW]
theorem mf (ss:List κ):(eB ss).length<=ss.length:=by have:=wv ss [];simpa [eB]using this
def Er (ss:List κ)(x:κ):eB (ss++[x])=gQ (eB ss) x:=by simp_all[eB]
end
theorem StrsAre.at:∀ {vs:LU}{ss:LS},StrsAre vs ss->∀(i:Nat)(v:Value),vs[i]? = some v->∃x t,v=.str x t/\ss[i]? = some x
 |_,_,.nil,i,v,h=>by simp at h
 |_,_,.cons x t M,0,v,h=>by simp at h;exact⟨x,t,h.symm,rr⟩
 |_,_,.cons x t M,i+1,v,h=>by
  exact StrsAre.at M i v h
def hW.at {prog:Program}{w:World}{κ:Type}[DecidableEq κ]{kd:PySem.KeyKind prog w κ}{kf:Value->κ}{M:List κ}(x:hW kd kf h a M)(k:∀o,h.get? a=some o->h'.get? a=some o):hW kd kf h' a M:=by
 obtain⟨o,es,O,t,ho,r⟩:=x;exact⟨o,es,O,t,k o ho,r⟩
section
variable {prog:Program}{w:World}{A:Around}{R:Result->Shared->Prop}{I:Addr}{fp wr:List Addr}{G:Array GenState->Array GenState->Prop}{n:Nat}{P:Nat->Value->Prop}{St:Nat->Shared->Prop}{κ:Type}[DecidableEq κ] {kd:PySem.KeyKind prog w κ}{kf:Value->κ}{mk:κ->Tok->Value}
def ww (j:KOf kd kf mk)(W:WalksS prog w A.in1 I fp wr G n P St)(S:Addr)(U:S∉fp)(ss:List κ)(hn:ss.length=n)
  (m:∀i v,P i v->∃x t,v=mk x t/\ss[i]? = some x) (hb:n+1<scanBound):
  ∀(k i:Nat)(s:Shared),n - i=k->i<=n->St i s->hW kd kf s.heap S (eB (ss.take i)) ->
   (∀s',Moved (S::wr) G s s'->hW kd kf s'.heap S (eB ss)->R (.ok (.ret .none)) s') ->
   codeAny (model prog w) A (.builtin "set.update.loop" ⟨[.ref S,.ref I],[]⟩) R s:=by
 have a:S∉wr:=λh=>U (W.sub _ h);have M:∀b∈wr,b∈S::wr:=λb hb=>mZ _ hb;intro k;induction k with
 |zero=>
  intro i s hk hi O hS hR;have p:i=n:=by omega
  subst p;refine codeAny_builtin PyProof.Rows.F.entry_set_update_loop ?_;refine wX (W.done s _ _ O λs' hm=>?_);show wpAny _ A.in1 (ret Value.none) _ _ s';refine wY (hR s' (hm.mono M) ?_);rw[List.take_of_length_le (by omega)]at hS;exact hS.at λo e=>hm.heap S _ a e
 |succ k q=>
  intro i s hk hi O hS hR;have l:i<n:=by omega
  refine codeAny_builtin PyProof.Rows.F.entry_set_update_loop ?_;refine wX (W.item i s _ _ l O λv s' r c hm=>?_);obtain⟨x,t,rfl,hx⟩:=m i v r;have u:hW kd kf s'.heap S (eB (ss.take i)):=hS.at λo e=>hm.heap S _ a e;refine wX (wpAny_holding ?_);unfold setAdd;refine wpAny_holding ?_;refine wX (kd.pyHash (k:=x) (j.is x t) ?_);have hl:(eB (ss.take i)).length+1<scanBound:=by grind[mf]
  refine AJ j (s:={ s' with toks:=s'.toks+1 }) u hl λb h' d B=>?_;have y:hW kd kf h' S (eB (ss.take (i+1))):=by
   simp_all[take_add_one,Er]
  refine wY ⟨plainId_quiet PyProof.Rows.F.plain_set_update_loop _,q (i+1) _ (by omega) l (W.frame _ s' _ _ c (le_succ _) λb hb o e=>?_) y λz f g=>?_⟩
  .rw[d.2 b (λh:b=S=>U (by rw[<-h];exact hb))];exact e
  .refine hR z (Moved.trans W.gtrans ((hm.mono M).then_heap (le_succ _) λb o hb e=>?_) f) g;rw[d.2 b (λh:b=S=>hb (by rw[h];exact mX))];exact e
end
section
variable {prog:Program}{w:World}{A:Around}{E:QV}{s:Shared}{κ:Type}[DecidableEq κ] {kd:PySem.KeyKind prog w κ}{kf:Value->κ}{mk:κ->Tok->Value}
noncomputable abbrev dC (w:World):Obj:={ cls:=.type "set",dict:=none,data:=.set #[] 0 (.fresh 0 0 (!w.params.followText "set-order")) }
def yu (a:Value)
  (h:Q₁ (.ref s.z) { s with heap:=s.heap.push (dC w) }):
  codeAny (model prog w) A (.call (.builtin "set.__new__") ⟨[.type "set",a],[]⟩) (wants Q₁ E) s:=by
 refine codeAny_of_tree ?_;refine wX (wpAny_of_eq (PySem.F.newCall_set_1 a) (wY ⟨plainId_quiet PySem.F.plain_set_new _,codeAny_builtin PySem.F.entry_set_new ?_⟩));unfold Builtin.«set.__new__» Builtin.Frozenset.newClass;have M:=sub_set_self;wp_walk;refine wpAny_askSetting (wY ?_);refine wX (wpAny_alloc (wY ?_));exact wY h
set_option maxHeartbeats 3200000 in
def tq (B:KOf kd kf mk){ss:List κ}
  (hh:A.handled=none) (hl:s.heap.IsList l items) (C:∀(i:Nat)(v:Value),items[i]? = some v->∃x t,v=mk x t/\ss[i]? = some x) (D:ss.length=items.size) (hb:items.size+1<scanBound)
  (h:∀(h':Heap)(tk:Nat),hW kd kf h' s.z (eB ss) ->
   (∀b o,b<s.z->s.heap.get? b=some o->h'.get? b=some o)->Q (.ref s.z) { s with heap:=h',toks:=tk }):
  wpAny (model prog w) A (call (.type "set") [.ref l]) Q E s:=by
 obtain⟨c,tl,G⟩:=called_set.mro;have H:=called_set.made;have I:=called_set.sub;refine wpAny_call (codeAny_of_tree ?_);show wpAny _ _ (callAny (.type "set") _) _ _ _;refine wY ⟨Code.quiet_builtin _ I9,codeAny_builtin PySem.F.entry_type_call ?_⟩;rw[Around.under_plain (weight_type_call_type "set" [.ref l] []) rr];have h1:=called_set.notType;have h2:=called_set.canCreate;have J:=PySem.F.typeCall_set_1 (.ref l);repeat (any_goals (first|assumption|wp_step))
 refine codeAny_mono (yu (.ref l) (E:=E) (Q₁:=λobj U=>obj=.ref s.z/\U={ s with heap:=s.heap.push (dC w) }) ⟨rr,rr⟩) λr U g=>?_;cases r with
 |error e=>exact g
 |ok fl=>
  cases fl with
  |ret obj=>
   obtain⟨rfl,rfl⟩:=g;have hS:(s.heap.push (dC w)).get? s.z=some (dC w):=vY _ rr;have K:Shared.TypeIs { s with heap:=s.heap.push (dC w) } (.ref s.z) "set":=⟨_,hS,rr⟩;have L:=called_set.init.lookup;have N:=called_set.init.bind (.ref s.z);repeat (any_goals (first|assumption|wp_step))
   refine codeAny_mono (codeAny_call_builtin (R:=wants (λr a=>r=.none/\∃h' tk,a={ s with heap:=h',toks:=tk } /\
     hW kd kf h' s.z (eB ss) /\
     (∀b o,b<s.z->s.heap.get? b=some o->h'.get? b=some o)) E) called_set.init.plain PySem.F.entry_set_init (check_set_init_1 K ?_)) λf a M=>?_
   .obtain⟨P,p,q,u,y⟩:=hl;obtain⟨S,T,V,O⟩:=P;simp only at q y;subst q;subst y;have W:(s.heap.push (dC w)).get? l=some { cls:=.type "list",dict:=T,data:=.seq items u,slots:=O }:=vZ _ p;have X:=PySem.F.sub_list_set;have Y:=PySem.F.sub_list_frozenset;have Am:(Value.type "list" == Value.type "dict")=false:=O9
    have z:(s.heap.push (dC w)).IsList l items:=⟨_,W,rr,u,rr⟩;unfold Builtin.«set.__init__» noKeywords Builtin.Frozenset.updateFrom;generalize j:pyIter=PI;wp_walk;subst j;refine wpAny_pyIter_list z ?_;refine wX (wpAny_runValue ?_);have Z:l<s.z:=vX p;have k:A.in1.in1.in1.handled=none:=by simp[hh]
    have YJ:l≠(s.heap.push (dC w)).objs.size:=by
     simp_all[vS,lt_succ_of_lt]
    have Tl:s.z∉[(s.heap.push (dC w)).objs.size,l]:=by
     simp_all[ne_of_gt]
    refine ww B ((Walks.list k _ l YJ items).toS) s.z
     Tl ss D C hb (items.size - 0) 0 _ (by omega) (uN _)
     ⟨⟨_,vY _ rr,rr,rr⟩,(z.push _)⟩ ?hS0 ?hR
    case hS0=>
     have YK:((s.heap.push (dC w)).push { cls:=.type "list_iterator",data:=.fields #[.ref l,.int 0 0] }).get? s.z
       = some (dC w):=vZ _ hS
     exact⟨_,#[],0,_,YK,⟨rr,rr,rr⟩,rr,λe he=>by simp at he,List.Perm.refl _,nodup_nil,(by show(0:Nat)<scanBound;decide),rr,rr,List.Pairwise.nil⟩
    case hR=>
     intro s' hm m
     obtain⟨h',g',d',S4,n⟩:=s'
     have eg:g'=s.gens:=hm.gens
     have ed:d'=s.drawn:=hm.drawn
     have eo:n=s.os:=hm.os
     subst eg;subst ed;subst eo
     show wpAny _ _ _ _ _ _
     refine wY ?_
     show wpAny _ _ (ret Value.none) _ _ _
     refine wY ⟨rr,h',S4,rr,m,λb o hb e=>?_⟩
     have hb1:b≠s.z:=vS hb
     have hb2:b≠(s.heap.push (dC w)).objs.size:=by
      simp_all[vS,lt_succ_of_lt]
     exact hm.heap b o (by simp_all) (vZ _ (vZ _ e))
   .cases f with
    |error e=>exact M
    |ok d=>
     cases d with
     |ret r=>
      obtain⟨rfl,h',tk,rfl,m,Lr⟩:=M;repeat (any_goals (first|assumption|wp_step))
      exact h _ _ m Lr
     |_=>exact M.elim
  |_=>exact g.elim
end
open Sem (wp)
section
variable {M:Model}{A:Around}{E:QV}{s:Shared}
def MD (hn:n≠0)(h:∀k d,k<n->Q k { s with drawn:=d }):wpAny M A (choose src n) Q E s:=by
 intro O p U;refine⟨hn,?_⟩;have:=h _ (s.drawn.bump src) (Nat.mod_lt (M.w.draws src (s.drawn.get src)) (Nat.pos_of_ne_zero hn));simp_all
end
def mi {α:Type}:∀(l:List α)(i:Nat),i<l.length->(l.eraseIdx i).length=l.length - 1:=by grind
theorem lr {α:Type}:∀(l:List α)(i:Nat)(x:α),l[i]? = some x->(x::l.eraseIdx i).Perm l
 |[],i,x,h=>by simp at h
 |a::l,0,x,h=>by simp_all
 |a::l,i+1,x,h=>by
  exact(List.Perm.swap a x _).trans ((lr l i x h).cons a)
theorem Ck {α:Type}:∀(n:Nat)(xs:List α)(s:Shared)(Q:List α->Shared->Prop),xs.length=n->(∀ys d,ys.Perm xs->Q ys { s with drawn:=d })->wpAny M A (drawOrder n xs) Q E s
 |0,xs,s,Q,hl,h=>by
  have:=List.eq_nil_of_length_eq_zero hl;subst this;exact wY (h [] _ (List.Perm.refl _))
 |n+1,[],s,Q,hl,h=>by simp at hl
 |n+1,x::r,s,Q,hl,h=>by
  refine wX (MD H9 λk d hk=>?_);obtain⟨y,hy⟩:∃y,(x::r)[k]? = some y:=⟨_,vU hk⟩;rw[hy];refine wX (Ck n _ _ _ (by rw[mi _ _ hk,hl];rfl) λys d' hp=>wY (h _ _ ((hp.cons y).trans (lr _ _ _ hy))))
theorem Cm {α:Type}(next:Nat->Nat):∀(fuel k:Nat)(left:List α)(out:Array α),left.length=fuel->(pickOrder.go next fuel k left out).toList.Perm (out.toList++left)
 |0,k,left,out,hl=>by
  simp_all[pickOrder.go]
 |fuel+1,k,left,out,hl=>by
  unfold pickOrder.go;have hk:next k % left.length<left.length:=Nat.mod_lt _ N9;obtain⟨y,hy⟩:∃y,left[next k % left.length]? = some y:=⟨_,vU hk⟩;rw[hy];refine(Cm _ _ _ _ _ (by rw[mi _ _ hk];lia)).trans ?_;rw[Array.toList_push,append_assoc];exact(lr _ _ _ hy).append_left _
def Es {α:Type}(next:Nat->Nat)(xs:Array α):(pickOrder next xs).toList.Perm xs.toList:=by
 grind[Cm,pickOrder]
def be:Slot "set_iterator" "__next__" "set_iterator.__next__" :=
 .of (owner:="set_iterator") (n:="__next__") Y9 I9 I9 I9
  (by first|exact .inl I9|exact .inr _) N8
def dR:entryFor table "set_iterator.__next__" = some Builtin.«set_iterator.__next__»:=entryFor_of_tree N8
def eV (a:Value):argsOk "set_iterator.__next__" ⟨[a],[]⟩:=N8
def kO:Slot "set_iterator" "__iter__" "set_iterator.__iter__" :=
 .of (owner:="set_iterator") (n:="__iter__") Y9 I9 I9 I9
  (by first|exact .inl I9|exact .inr _) N8
def qo:entryFor table "set_iterator.__iter__" = some Builtin.«dict_keyiterator.__iter__» :=
 entryFor_alias (id':="dict_keyiterator.__iter__") N8 rr I9 N8
def tu (a:Value):argsOk "set_iterator.__iter__" ⟨[a],[]⟩:=N8
def pj:entryFor table "set.__iter__" = some Builtin.«frozenset.__iter__» :=
 entryFor_alias (id':="frozenset.__iter__") N8 rr I9 N8
noncomputable abbrev lu (M:Value)(i:Nat)(S:Addr)(n O:Nat):Obj:={ cls:=.type "set_iterator",data:=.fields #[M,.int i 0,.ref S,.int n 0,.int O 0] }
section
variable {prog:Program}{w:World}{A:Around}{E:QV}{s:Shared}{it S:Addr}{i ep:Nat}{o:Obj}{es:Array (Int×Value)}{t:SetTable}
def cS (ho:s.heap.get? it=some (lu M i S n ep)):s.TypeIs (.ref it) "set_iterator":=⟨_,ho,rr⟩
def wx {k k':Nat}{x:Value}{Q:Option Value->Shared->Prop}(ho:s.heap.get? it=some (lu (.int k 0) i S es.size ep))
  (hS:s.heap.get? S=some o) (hd:o.data=.set es ep t) (hf:t.fits es.size=true)
  (O:∀(U:Around)(a:QV)(M:Option (Value×Nat)->Shared->Prop),M (some (x,k')) s->wpAny (model prog w) U (setNext S k i ep) M a s)
  (b:∀h',h'.get? it=some (lu (.int k' 0) (i+1) S es.size ep)->Heap.SameBut it s.heap h'->Q (some x) { s with heap:=h' }):
  wpAny (model prog w) A (pyNext (.ref it)) Q E s:=by
 refine wX (wpAny_attempt (wpAny_callSpecial?_slot (cS ho) be
  (wpAny_call_entry be (cS ho) dR ?_ (eV _))))
 show wpAny _ _ (fieldsOf _>>=_) _ _ s;refine wX (wpAny_fieldsOf ho rr ?_);refine wX (wpAny_setEntries_of hS hd hf ?_);rw[if_neg H9];refine wX (O _ _ _ ?_);refine wX (wpAny_setField_rec ho H9 λh1 c b1=>?_);refine wX (wpAny_setField_rec c H9 λh2 e2 b2=>?_);exact wY ⟨x,rr,wY (b h2 (by simpa [rawInt,lu]using e2) (b1.trans b2))⟩
def wy {k:Nat}{Q:Option Value->Shared->Prop}(hh:A.handled=none)(ho:s.heap.get? it=some (lu (.int k 0) i S es.size ep))
  (hS:s.heap.get? S=some o) (hd:o.data=.set es ep t) (hf:t.fits es.size=true)
  (O:∀(U:Around)(a:QV)(M:Option (Value×Nat)->Shared->Prop),M none s->wpAny (model prog w) U (setNext S k i ep) M a s)
  (b:∀h',Heap.ExtBut it s.heap h'->Q none { s with heap:=h' }):
  wpAny (model prog w) A (pyNext (.ref it)) Q E s:=by
 refine wX (wpAny_attempt (wpAny_callSpecial?_slot (cS ho) be
  (wpAny_call_entry be (cS ho) dR ?_ (eV _))))
 show wpAny _ _ (fieldsOf _>>=_) _ _ s;refine wX (wpAny_fieldsOf ho rr ?_);refine wX (wpAny_setEntries_of hS hd hf ?_);rw[if_neg H9];refine wX (O _ _ _ ?_);refine wX (wpAny_setField_rec ho H9 λh1 c b1=>?_);refine wX ?_;refine wX (m:=firstArgMember _ _) (wpAny_of_eq Y9 ?_);refine wpAny_newObj_type ?_ H8;refine wX (wpAny_handled ?_);rw[show A.in1.handled=none from hh];refine wX (wY (wpAny_throw ?_));refine wX (wpAny_isInstance ⟨_,vY _ rr,rr⟩ isSubtype_stop ?_);exact wY (b _ ((b1.extBut.push _).push _))
def t6 {T:Addr}{pl:LN}{p:Nat}{x:Int×Value}{nt:Nat}{Q:Option Value->Shared->Prop}(ho:s.heap.get? it=some (lu (.ref T) i S es.size ep))
  (O:s.heap.get? T=some (seqObj "tuple" (pl.map λ(p:Nat)=>Value.int p 0).toArray nt))
  (hS:s.heap.get? S=some o) (hd:o.data=.set es ep t) (hf:t.fits es.size=true) (hp:pl[i]? = some p) (hx:es[p]? = some x)
  (U:∀h',h'.get? it=some (lu (.ref T) (i+1) S es.size ep)->Heap.SameBut it s.heap h'->Q (some x.2) { s with heap:=h' }):
  wpAny (model prog w) A (pyNext (.ref it)) Q E s:=by
 refine wX (wpAny_attempt (wpAny_callSpecial?_slot (cS ho) be
  (wpAny_call_entry be (cS ho) dR ?_ (eV _))))
 show wpAny _ _ (fieldsOf (.ref it)>>=_) _ _ s;refine wX (wpAny_fieldsOf ho rr ?_);refine wX (wpAny_setEntries_of hS hd hf ?_);rw[if_neg H9];refine wX (wpAny_seqItems O rr ?_);have M:(pl.map λ(p:Nat)=>Value.int p 0).toArray[(i:Int).toNat]? = some (.int p 0):=by simp[hp]
 dsimp only;rw[M];have e2:wpAny (model prog w) A.in1 (setNextDrawn S (p:Int).toNat (ep:Int).toNat) (λy s'=>y=x.2/\s'=s) (λ_ _=>False) s:=by
  refine wX (wpAny_setState_of hS hd hf ?_);simp_all[wY]
 refine wX (wpAny_mono e2 (λy s' hy=>?_) λ_ _ z=>z.elim);obtain⟨rfl,rfl⟩:=hy;refine wX (wpAny_setField_rec ho H9 λh1 M b1=>?_);exact wY ⟨_,rr,wY (U h1 (by simpa [rawInt,lu]using M) b1)⟩
def t7 {T:Addr}{pl:LN}{nt:Nat}{Q:Option Value->Shared->Prop}(hh:A.handled=none)(ho:s.heap.get? it=some (lu (.ref T) i S es.size ep))
  (O:s.heap.get? T=some (seqObj "tuple" (pl.map λ(p:Nat)=>Value.int p 0).toArray nt))
  (hS:s.heap.get? S=some o) (hd:o.data=.set es ep t) (hf:t.fits es.size=true) (hp:pl[i]? = none)
  (U:∀h',Heap.ExtBut it s.heap h'->Q none { s with heap:=h' }):
  wpAny (model prog w) A (pyNext (.ref it)) Q E s:=by
 refine wX (wpAny_attempt (wpAny_callSpecial?_slot (cS ho) be
  (wpAny_call_entry be (cS ho) dR ?_ (eV _))))
 show wpAny _ _ (fieldsOf _>>=_) _ _ s;refine wX (wpAny_fieldsOf ho rr ?_);refine wX (wpAny_setEntries_of hS hd hf ?_);rw[if_neg H9];refine wX (wpAny_seqItems O rr ?_);have M:(pl.map λ(p:Nat)=>Value.int p 0).toArray[(i:Int).toNat]? = none:=by simpa using hp
 dsimp only;rw[M];refine wX (wpAny_setField_rec ho H9 λh0 a b=>?_);refine wX (wpAny_setField_rec a H9 λh1 M b1=>?_);refine wX ?_;refine wX (m:=firstArgMember _ _) (wpAny_of_eq Y9 ?_);refine wpAny_newObj_type ?_ H8;refine wX (wpAny_handled ?_);rw[show A.in1.handled=none from hh];refine wX (wY (wpAny_throw ?_));refine wX (wpAny_isInstance ⟨_,vY _ rr,rr⟩ isSubtype_stop ?_);exact wY (U _ (((b.trans b1).extBut.push _).push _))
def yv (ho:s.heap.get? it=some (lu M i S n ep))(h:Q (.ref it) s):wpAny (model prog w) A (pyIter (.ref it)) Q E s:=by
 refine wpAny_pyIter_slot (cS ho) kO (wpAny_call_entry kO (cS ho) qo ?_ (tu _));exact wY ⟨_,rr,"set_iterator",_,cS ho,be.lookup,h⟩
end
section
variable {prog:Program}{w:World}{A:Around}{E:QV}{s:Shared}{it S:Addr}{i k ep:Nat}{o:Obj}{es:Array (Int×Value)}{t:SetTable}
def ub (hS:s.heap.get? S=some o)(hd:o.data=.set es ep t)(hf:t.fits es.size=true)(hb:w.params.followText "set-order" = true)
  (h:Q (((pickOrder (w.params.setOrder S ep) es)[i]?).map λe=>(e.2,k)) s):wpAny (model prog w) A (setNext S k i ep) Q E s:=by
 refine wX (wpAny_setState_of hS hd hf ?_);show wpAny _ _ (if w.params.followText _=true then _ else _) _ _ _;rw[if_pos hb,if_neg H9];refine wX (wX (wpAny_setState_of hS hd hf ?_));show wpAny _ _ (if w.params.followText _=true then _ else _) _ _ _;rw[if_pos hb];refine wX (wpAny_askSetting (wY ?_));exact wY h
def qp (hS:s.heap.get? S=some o)(hd:o.data=.set es ep t)(hf:t.fits es.size=true)(hb:w.params.followText "set-order" = false)(hl:t.led=true)(hz:(!t.plain && decide (es.size > 1))=false)
  (h:Q (match es[SetTable.below t.place k]?,t.place[SetTable.below t.place k]? with
   |some (_,x),some j=>some (x,j+1)
   |_,_=>none) s):wpAny (model prog w) A (setNext S k i ep) Q E s:=by
 refine wX (wpAny_setState_of hS hd hf ?_);show wpAny _ _ (if w.params.followText _=true then _ else _) _ _ _;rw[if_neg (by rw[hb];simp)];show wpAny _ _ (if(!t.plain && decide _)=true then _ else _) _ _ _;rw[if_neg (by rw[hz];simp)];show wpAny _ _ ((if(!t.led && !es.isEmpty)=true then unsupported _ else pure ())>>=_) _ _ _;rw[hl];exact wY h
def uc (hh:A.handled=none)(hd:o.data=.set es ep t)(hf:t.fits es.size=true)(c:S≠it)(vs:LU)(hv:vs.length=es.size)(sl:Nat->Nat)
  (d:∀i x,vs[i]? = some x->∀(O:Around)(U:QV)(s:Shared)(M:Option (Value×Nat)->Shared->Prop),s.heap.get? S=some o->M (some (x,sl (i+1))) s->wpAny (model prog w) O (setNext S (sl i) i ep) M U s)
  (f:∀(O:Around)(U:QV)(s:Shared)(M:Option (Value×Nat)->Shared->Prop),s.heap.get? S=some o->M none s->wpAny (model prog w) O (setNext S (sl es.size) es.size ep) M U s):
  Walks prog w A it [it,S] [it] es.size (λi v=>vs[i]? = some v) (λi h=>h.get? it=some (lu (.int (sl i) 0) i S es.size ep)/\h.get? S=some o) where
 sub:=λb hb=>by simp at hb;simp[hb]
 frame:=λ_ _ _ st hk=>⟨hk it H9 _ st.1,hk S H9 _ st.2⟩
 item:=λi s Q E hi st a=>by
  obtain⟨x,hx⟩:∃x,vs[i]? = some x:=⟨_,vU (by omega)⟩;refine wx st.1 st.2 hd hf (λO U M q=>d i x hx O U s M st.2 q) λh' h1 h2=>?_;exact a x h' _ hx ⟨h1,h2.extBut S _ c st.2⟩ λb u hb e=>h2.extBut b u (λz=>hb (by simp[z])) e
 done:=λs Q E st a=>wy hh st.1 st.2 hd hf (λO U M q=>f O U s M st.2 q) λh' h1=>a h' _ λb u hb e=>h1 b u (λz=>hb (by simp[z])) e
 self:=λ_ _ _ _ st a=>yv st.1 a
def AK {T:Addr}{pl:LN}{nt:Nat}(hh:A.handled=none)(hd:o.data=.set es ep t)(hf:t.fits es.size=true)(U:S≠it)(a:T≠it)(hp:pl.Perm (List.range es.size)):
  Walks prog w A it [it,S,T] [it] es.size (λi v=>(pl.map λp=>(es.getD p (0,.none)).2)[i]? = some v)
   (λi h=>h.get? it=some (lu (.ref T) i S es.size ep)/\h.get? S=some o/\h.get? T=some (seqObj "tuple" (pl.map λ(p:Nat)=>Value.int p 0).toArray nt)) where
 sub:=λb hb=>by simp at hb;simp[hb]
 frame:=λ_ _ _ st hk=>⟨hk it H9 _ st.1,hk S H9 _ st.2.1,hk T H9 _ st.2.2⟩
 item:=λi s Q E hi st M=>by
  have O:pl.length=es.size:=by rw[hp.length_eq,length_range]
  obtain⟨p,hx⟩:∃p,pl[i]? = some p:=⟨_,vU (by omega)⟩;have c:=mem_range.mp (hp.mem_iff.mp (vL hx));have he:es[p]? = some (es.getD p (0,.none)):=by simp_all
  refine t6 st.1 st.2.2 st.2.1 hd hf hx he λh' h1 h2=>?_;exact M _ h' _ (by simp[hx]) ⟨h1,h2.extBut S _ U st.2.1,h2.extBut T _ a st.2.2⟩ λb u hb e=>h2.extBut b u (λz=>hb (by simp[z])) e
 done:=λs Q E st M=>by
  have O:pl.length=es.size:=by rw[hp.length_eq,length_range]
  exact t7 hh st.1 st.2.2 st.2.1 hd hf (getElem?_eq_none (by omega)) λh' h1=>M h' _ λb u hb e=>h1 b u (λz=>hb (by simp[z])) e
 self:=λ_ _ _ _ st M=>yv st.1 M
end
def AL {α:Type}(es:Array α)(d:α):(List.range es.size).map (λp=>es.getD p d)=es.toList:=by
 apply ext_getElem?;intro i;by_cases h:i<es.size
 .simp_all
 .simp[h]
section
variable {prog:Program}{w:World}{A:Around}{E:QV}{s:Shared}
def GX {κ:Type}[DecidableEq κ]{kd:PySem.KeyKind prog w κ}{kf:Value->κ}{mk:κ->Tok->Value}(G:KOf kd kf mk){S:Addr}{f:List κ}{Q:QV}(hS:hW kd kf s.heap S f)
  (l:∀(h':Heap)(d:Drawn)(it:Addr)(vs:LU)(fp:List Addr)(St:Nat->Heap->Prop),(∀a,a.handled=none->Walks prog w a it fp [it] f.length (λi v=>vs[i]? = some v) St)->St 0 h' ->
   (∀b u,s.heap.get? b=some u->h'.get? b=some u)->s.z<=it->(∀b∈fp,b=S\/s.z<=b)->vs.length=f.length->(vs.map kf).Perm f->(∀v∈vs,∃x t,v=mk x t) ->
   Q (.ref it) { s with heap:=h',drawn:=d }):wpAny (model prog w) A (pyIter (.ref S)) Q E s:=by
 obtain⟨o,es,c,t,ho,H,hd,I,hp,nd,hb,hf,J,z⟩:=hS;have sz:es.size=f.length:=by rw[<-hp.length_eq,vI,vG]
 have B:S<s.z:=vX ho;have g:s.TypeIs (.ref S) "set":=⟨_,ho,H.1⟩;have U:∀e∈es.toList,∃x t,e.2=mk x t:=λe he=>by
  obtain⟨⟨k,hk,_⟩,_⟩:=I e he;obtain⟨t,q⟩:=G.of hk;exact⟨k,t,q⟩
 refine wpAny_pyIter_slot g slot_set_iter (wpAny_call_entry slot_set_iter g pj ?_ (PySem.F.args_set_iter_1 _));show wpAny _ _ (Builtin.Frozenset.sizeOf S>>=_) _ _ s;unfold Builtin.Frozenset.sizeOf;refine wX (wX (wpAny_setEntries_of ho hd hf (wY ?_)));unfold setDrawn setsByText;refine wX (wX (wpAny_setState_of ho hd hf ?_));dsimp only;refine wX (wX (wpAny_askSetting (wY (wY ?_))));show wpAny _ _ (if(!w.params.followText "set-order" && (!t.plain && decide (es.size > 1)))=true then _ else _) _ _ _;have m:(es.toList.map (·.2)).map kf=es.toList.map (λe=>kf e.2):=by rw[uP];rfl
 by_cases M:w.params.followText "set-order" = true
 .rw[if_neg (by rw[M];simp)];refine wX (wY ?_);refine wX (wpAny_setEpoch_of ho hd hf ?_);have pp:=Es (w.params.setOrder S c) es;have C:((pickOrder (w.params.setOrder S c) es).toList.map (·.2)).length=es.size:=by rw[vI,pp.length_eq,vG]
  refine wX (wpAny_newObj_type (wY ⟨_,rr,"set_iterator",_,⟨_,vY _ rr,rr⟩,be.lookup,?_⟩));refine l _ s.drawn s.z ((pickOrder (w.params.setOrder S c) es).toList.map (·.2)) [s.z,S] (λi h=>h.get? s.z=some (lu (.int ((λ_=>0:Nat->Nat) i:Nat) 0) i S es.size c)/\h.get? S=some o) (λa j=>?_) ?_ (λb u e=>vZ _ e) (vT _) (λb hb=>?_) (C.trans sz) ?_ ?_
  .rw[<-sz];exact uc j hd hf (vS B) _ C (λ_=>0) (λi x hx a n s r h1 h2=>ub h1 hd hf M (by
    rw[vA,Array.getElem?_toList]at hx;obtain⟨e,he,rfl⟩:=oY hx;rw[he];exact h2)) (λa n s r h1 h2=>ub h1 hd hf M (by
    simp_all))
  .exact⟨vY _ rr,vZ _ ho⟩
  .grind
  .refine List.Perm.trans ?_ hp;rw[<-m];exact(pp.map _).map _
  grind
 .rw[Bool.not_eq_true]at M;have hl:t.led=true:=by rw[J,M];rfl
  by_cases h1:(!t.plain && decide (es.size > 1))=false
  .rw[if_neg (by rw[h1];simp)];refine wX (wY ?_);refine wX (wpAny_setEpoch_of ho hd hf ?_);refine wX (wpAny_newObj_type (wY ⟨_,rr,"set_iterator",_,⟨_,vY _ rr,rr⟩,be.lookup,?_⟩));have D:∀i,i<=es.size->SetTable.below t.place (if i=0 then 0 else t.place.getD (i - 1) 0+1)=i:=λi hi=>by
    by_cases h0:i=0
    .rw[if_pos h0,AH z,h0]
    .rw[if_neg h0,AG z (i:=i - 1) (by rw[Array.getD_eq_getD_getElem?,Array.getElem?_eq_getElem (by have:t.place.size=es.size:=by { simp only[SetTable.fits,vC,beq_iff_eq,decide_eq_true_eq]at hf;exact hf.1 };omega)];rfl)];omega
   have K:t.place.size=es.size:=by
    simp_all[SetTable.fits]
   refine l _ s.drawn s.z (es.toList.map (·.2)) [s.z,S] (λi h=>h.get? s.z=some (lu (.int ((λi=>if i=0 then 0 else t.place.getD (i - 1) 0+1:Nat->Nat) i:Nat) 0) i S es.size c)/\h.get? S=some o) (λa j=>?_) ?_ (λb u e=>vZ _ e) (vT _) (λb hb=>?_) (by simp_all) (by rw[m];exact hp) ?_
   .rw[<-sz];refine uc j hd hf (vS B) _ H9 (λi=>if i=0 then 0 else t.place.getD (i - 1) 0+1) (λi x hx a n s r y q2=>qp y hd hf M hl h1 ?_) (λa n s r y q2=>qp y hd hf M hl h1 ?_)
    .rw[D i (by have:=(vV hx).1;simp at this;omega)];rw[vA,Array.getElem?_toList]at hx;obtain⟨e,he,rfl⟩:=oY hx;have hi:=(Array.getElem?_eq_some_iff.mp he).1;simp_all
    .rw[D es.size (vT _),Array.getElem?_eq_none (vT _)];exact q2
   .exact⟨vY _ rr,vZ _ ho⟩
   .grind
   .intro v hv;obtain⟨e,he,rfl⟩:=vO hv;exact U e he
  .rw[if_pos (by rw[M];simpa using h1)];refine wX (Ck es.size (List.range es.size) _ _ H9 λpl d pp=>?_);refine wX (wpAny_newTuple ?_ (by rw[vI,pp.length_eq,length_range,sz];exact fits_of_scanBound hb));refine wX (wpAny_setEpoch_of (vZ _ ho) hd hf ?_);refine wX (wpAny_newObj_type (wY ⟨_,rr,"set_iterator",_,⟨_,vY _ rr,rr⟩,be.lookup,?_⟩));have hsz:(s.heap.push (seqObj "tuple" (pl.map λ(p:Nat)=>Value.int p 0).toArray 0)).objs.size=s.z+1:=size_push' _ _;have O:((pl.map λp=>(es.getD p (0,.none)).2)).Perm (es.toList.map (·.2)):=by
    have:=(pp.map λp=>es.getD p (0,Value.none)).map (·.2);rw[AL]at this;rw[uP]at this;exact this
   refine l _ d _ (pl.map λp=>(es.getD p (0,.none)).2) [(s.heap.push (seqObj "tuple" (pl.map λ(p:Nat)=>Value.int p 0).toArray 0)).objs.size,S,s.z] (λi h=>h.get? (s.heap.push (seqObj "tuple" (pl.map λ(p:Nat)=>Value.int p 0).toArray 0)).objs.size=some (lu (.ref s.z) i S es.size c)/\h.get? S=some o/\h.get? s.z=some (seqObj "tuple" (pl.map λ(p:Nat)=>Value.int p 0).toArray 0)) (λa j=>?_) ?_ (λb u e=>vZ _ (vZ _ e)) ?_ (λb hb=>?_) ?_ ?_ ?_
   .rw[<-sz];exact AK (nt:=0) j hd hf (by simp_all[vS,lt_succ_of_lt]) H9 pp
   .exact⟨vY _ rr,vZ _ (vZ _ ho),vZ _ (vY _ rr)⟩
   .simp
   .grind
   .rw[O.length_eq,vI,vG,sz]
   .exact((O.map kf).trans (by rw[m])).trans hp
   .intro v hv;obtain⟨e,he,rfl⟩:=vO (O.mem_iff.mp hv);exact U e he
end
def Et (h:ItemsOf (λi v=>vs[i]? = some v) M vs.length):M.toList=vs:=by
 apply ext_getElem?;intro i;by_cases hi:i<M.size
 .have e:=Array.getElem?_eq_getElem hi;rw[Array.getElem?_toList,e,h.2 i _ e]
 .rw[getElem?_eq_none (by rw[vG];omega),getElem?_eq_none (by rw[<-h.1];omega)]
section
variable {prog:Program}{w:World}{A:Around}{E:QV}{s:Shared}{κ:Type}[DecidableEq κ] {kd:PySem.KeyKind prog w κ}{kf:Value->κ}{mk:κ->Tok->Value}
def yw (q:KOf kd kf mk)(hh:A.handled=none)(hS:hW kd kf s.heap S ts)
  (r:∀s' vs,(∀b u,s.heap.get? b=some u->s'.heap.get? b=some u)->s'.gens=s.gens->s'.os=s.os->vs.length=ts.length->(vs.map kf).Perm ts->(∀v∈vs,∃x t,v=mk x t)->Q vs s'):
  wpAny (model prog w) A (collect (.ref S)) Q E s:=by
 have M:∀(s1:Shared),hW kd kf s1.heap S ts->s1.TypeIs (.ref S) "set":=λs1 h=>by
  obtain⟨o,_,_,_,ho,y,_⟩:=h;exact⟨o,ho,y.1⟩
 have B:S<s.z:=by obtain⟨o,_,_,_,ho,_⟩:=hS;exact vX ho
 have U:ts.length<scanBound:=by obtain⟨_,_,_,_,_,_,_,_,_,_,h,_⟩:=hS;exact h
 unfold collect;refine wX (wpAny_runValue (codeAny_builtin PySem.F.entry_proto_collect ?_));refine wX (wpAny_newObj_type ?_);refine wY ⟨plainId_quiet PySem.F.plain_list_iadd _,codeAny_builtin PySem.F.entry_list_iadd ?_⟩;rw[Around.under_plainId PySem.F.plain_list_iadd _];show wpAny _ A.in1 (Builtin.List.listExtendWith (.ref s.z) (.ref S) (.ref s.z)) _ _ _;unfold Builtin.List.listExtendWith;have g:hW kd kf (s.heap.push { cls:=.type "list",data:=.seq ([]:LU).toArray }) S ts:=hS.at λo e=>vZ _ e;refine wX (wpAny_typeOf (M _ g) ?_);have C:s.z≠S:=ne_of_gt B;have h1:Builtin.List.listSameRef (.ref s.z) (.ref S)=false:=by simp[Builtin.List.listSameRef,C]
 have h2:(Value.type "set" == Value.type "list")=false:=O9
 have h3:(Value.type "set" == Value.type "tuple")=false:=O9
 simp only[h1,h2,h3,Bool.or_false,uV,if_false];refine wX (GX q g λh' d it vs fp St W D hk Ai G l a H=>?_);have i:hW kd kf h' S ts:=g.at λo e=>hk _ _ e;refine wX (wpAny_holding ?_);unfold Builtin.List.listLengthHint;refine wX (wpAny_specialOf (M _ i) PySem.F.slot_set_len.lookup ?_);wp_delta;refine wX (wpAny_isInstance (M _ i) sub_set_self ?_);show wpAny _ A.in1 (typeOf (Value.ref S)>>=_) _ _ _;refine wX (wpAny_typeOf (M _ i) ?_);refine wY ?_;rw[if_pos O9];refine wX (wpAny_rule ?_);refine wX ?_;have I:(s.heap.push { cls:=.type "list",data:=.seq ([]:LU).toArray }).objs.size=s.z+1:=size_push' _ _;have c:=hk _ _ (vY _ rr);refine wX (wpAny_updateSeq c rr ?_);have f:=Heap.get?_update_self (Obj.mapSeq (·.push Value.none)) c rr;refine wpAny_updateSeq f rr ?_;have j:=Heap.get?_update_self (Obj.mapSeq (·.pop)) f rr;have m:s.z∉fp:=λhm=>by
  grind
 have n:∀b u,b≠s.z->h'.get? b=some u ->
   ((h'.update s.z (Obj.mapSeq (·.push Value.none))).update s.z (Obj.mapSeq (·.pop))).get? b=some u:=
  λb u hb e=>(Heap.get?_update_other _ _ (Ne.symm hb)).trans ((Heap.get?_update_other _ _ (Ne.symm hb)).trans e)
 have p:=W A.in1 hh;refine wY ⟨plainId_quiet plain_extend_loop _,codeAny_extend_loopS p.toS (fits_of_scanBound U) _ m _ ts.length 0 _ _ _ rr (uN _)
  (p.frame 0 _ _ D λb hb u e=>n b u (λz=>m (z ▸ hb)) e) j (ItemsOf.nil _) λs' J K hm k O=>?_⟩
 show wpAny _ A (load s.z>>=_) _ _ s';refine wX (wpAny_load k ?_);rw[<-l]at O;refine wY ?_;show Q J.toList s';rw[Et O];refine r s' vs (λb u e=>hm.heap b u (λhb=>?_) (n b u (vS (vX e)) (hk _ _ (vZ _ e)))) hm.gens hm.os l a H;have hl:=vX e;simp_all<;>lia
def yx (prog:Program)(w:World)(kf:Value->κ)(mk:κ->Tok->Value)(R:List κ->LU->Prop):Prop:=∀ {E:QV}{M:List κ}{vs:LU}{A:Around}{s:Shared}{a:Addr}{P},(∀v∈vs,∃x t,v=mk x t)->(vs.map kf).Perm M->vs.length<64 ->
 s.heap.get? a=some (seqObj "list" vs.toArray 0)->(∀out:AV,R M out.toList->P (.done (.ret .none)) { s with heap:=sortedHeap s.heap a vs out })->wpAny (model prog w) A (Builtin.«list.sort» ⟨[.ref a],[]⟩) P E s
def AM (d:KOf kd kf mk)(f:yx prog w kf mk R)(hh:A.handled=none)(hS:hW kd kf s.heap S ts)(g:ts.length<64)
  (h:∀(s1:Shared)(h':Heap)(a:Addr)(out:AV)(n:Nat),(∀b u,s.heap.get? b=some u->s1.heap.get? b=some u)->s1.os=s.os->s1.gens=s.gens->(∀b u,s1.heap.get? b=some u->h'.get? b=some u)->s1.z<=a->h'.get? a=some (seqObj "list" out n) ->
   R ts out.toList->Q (.ref a) { s1 with heap:=h' }):
  wpAny (model prog w) A (call (.builtin "sorted") [.ref S]) Q E s:=by
 refine Calls.call_function_entry kind_sorted plain_sorted entry_sorted (args_sorted1 _) ?_;unfold Builtin.«sorted»;refine wX (m:=checkCount "sorted" 1 1 _) (wY ?_);refine wX (yw d (A:=A.in1) (by exact hh) hS λs1 vs hk i c U M j=>?_);refine wX (wpAny_newList ?_ (by rw[U,sizeLine_eq];omega));have O:(s1.heap.push (seqObj "list" vs.toArray 0)).get? s1.z=some (seqObj "list" vs.toArray 0):=vY _ rr;show wpAny _ _ _ _ _ { s1 with heap:=s1.heap.push (seqObj "list" vs.toArray 0) };refine wX (wpAny_holding (wpAny_call_entry slot_list_sort ⟨_,O,rr⟩ entry_list_sort (f j M (by rw[U];exact g) O λout k=>⟨_,rr,?_⟩) (args_list_sort _)));obtain⟨e,he⟩:=sortedHeap_at (out:=out) O;refine wY ⟨_,rr,h s1 _ _ _ e hk c i (λb u q=>?_) (vT _) he k⟩;have hl:=vX q;rw[sortedHeap_old (vS hl) (by simp_all[lt_succ_of_lt])];exact vZ _ q
end
end DL
namespace DL
open PySem PySem.Spec PyProof.Rows L2
def yy (a b:Str):Prop:=¬b.cps.toList<a.cps.toList
def Cn:ltCps b.cps.toList a.cps.toList=false↔yy a b:=by rw[ltCps_eq,decide_eq_false_iff_not];rfl
def ud (h:yy a b)(k:yy b c):yy a c:=by
 grind[yy]
def GY (h:yy a b)(k:yy b a):a=b:=by
 have e:=List.le_antisymm (not_lt.mp h) (not_lt.mp k);obtain⟨a⟩:=a;simp_all
noncomputable def AN (x:Str):LS->LS
 |[]=>[x]
 |y::r=>if ltCps y.cps.toList x.cps.toList then y::AN x r else x::y::r
def kP (l:LS):LS:=l.foldr AN []
theorem nn (x:Str):∀l,(AN x l).Perm (x::l)
 |[]=>List.Perm.refl _
 |y::r=>by
  unfold AN;split
  .exact((nn x r).cons y).trans (List.Perm.swap x y r)
  rfl
theorem cz:∀l,(kP l).Perm l
 |[]=>List.Perm.refl _
 |x::l=>(nn x _).trans ((cz l).cons x)
theorem ue (x:Str):∀l,l.Pairwise yy->(AN x l).Pairwise yy
 |[],_=>by simp[AN]
 |y::r,h=>by
  obtain⟨h1,h2⟩:=pairwise_cons.mp h;unfold AN;split
  .rename_i hl;refine pairwise_cons.mpr ⟨λz hz=>?_,ue x r h2⟩;rcases vP ((nn x r).mem_iff.mp hz)with rfl|hz
   .rw[ltCps_eq,decide_eq_true_eq]at hl;exact λk=>lt_irrefl _ (lt_trans hl k)
   simp_all
  .rename_i hl;rw[Bool.not_eq_true]at hl;have M:=Cn.mp hl;refine pairwise_cons.mpr ⟨λz hz=>?_,h⟩;rcases vP hz with rfl|hz
   .exact M
   .exact ud M (h1 z hz)
theorem qq:∀l,(kP l).Pairwise yy
 |[]=>List.Pairwise.nil
 |x::l=>ue x _ (qq l)
theorem o6:∀(l:LS)(p:Str),risingS p l=true->(p::l).Pairwise yy
 |[],p,_=>List.pairwise_singleton _ _
 |x::r,p,h=>by
  have h':(!ltCps _ _ && risingS x r)=true:=h;rw[vC]at h';have M:=Cn.mp (by simpa using h'.1);have O:=o6 r x h'.2;refine pairwise_cons.mpr ⟨λz hz=>?_,O⟩;rcases vP hz with rfl|hz
  .exact M
  .exact ud M ((pairwise_cons.mp O).1 z hz)
theorem yz:∀(l:LS),sortedS l=true->l.Pairwise yy
 |[],_=>List.Pairwise.nil
 |x::r,h=>o6 r x h
def y0 (a:Str):yy a a:=lt_irrefl _
theorem qr:∀(l1 l2:LS),l1.Perm l2->l1.Pairwise yy->l2.Pairwise yy->l1=l2
 |[],l2,p,_,_=>(nil_perm.mp p).symm
 |x::U,[],p,_,_=>absurd p.length_eq H9
 |x::U,y::a,p,h1,h2=>by
  have M:yy x y:=by
   rcases vP (p.mem_iff.mpr (mX ..))with z|z
   .rw[z];exact y0 _
   simp_all
  have O:yy y x:=by
   rcases vP (p.mem_iff.mp (mX ..))with z|z
   .rw[z];exact y0 _
   simp_all
  have e:=GY M O;subst e;rw[qr U a (List.Perm.cons_inv p) (pairwise_cons.mp h1).2 (pairwise_cons.mp h2).2]
def ug (p:M.Perm l)(h:sortedS M=true):M=kP l:=qr _ _ (p.trans (cz l).symm) (yz _ h) (qq l)
section
variable {X:Cx}
noncomputable def y4 {prog:Program}{w:World}{κ:Type}[DecidableEq κ](kd:PySem.KeyKind prog w κ)(kf:Value->κ)(S:Addr)(M:List κ):HO:=.ext λh=>hW kd kf h S M
def np (I:Inv X af σ H s)(k:∀b u,s.heap.get? b=some u->s1.heap.get? b=some u)(ho:s1.os=s.os)(O:s1.gens=s.gens):Inv X af σ H s1:=by
 have U:=I.step (d':=s1.drawn) (t':=s1.toks) (ch:=[]) (λ_ z=>nomatch z) (λb o _ _ _ e _=>k b o e) (λb o _ _ _ e _=>⟨o.slots,k b o e⟩) (λ_ _ _ _ n=>n)
  (λb o _ e=>⟨o,k b o e⟩) (λ_ _ e=>e) (λ_ _ _ e=>e) (λ_ _ e=>e) (λm hm=>?_) (I.hok.kept k) I.bare
 .obtain⟨h1,g1,d1,a,c⟩:=s1;simp_all
 .obtain⟨o,es,M,ho,r⟩:=hm;exact⟨o,es,M,k _ o ho,r⟩
variable {κ:Type}[DecidableEq κ] {kd:PySem.KeyKind X.prog X.w κ}{kf:Value->κ}{mk:κ->Tok->Value}{sf:List κ->List κ}{mv:κ->V}
def GZ (mk:κ->Tok->Value)(its:LU)(ss:List κ):Prop:=its.length=ss.length/\∀(i:Nat)(v:Value),its[i]? = some v->∃x t,v=mk x t/\ss[i]? = some x
def o7 (U:KOf kd kf mk)(hc:X.calm=true):bg X (.type "set") (λxs H Q=>∃p ys ss,xs=[.ref p]/\fD X.K H p ys/\(∀its,aL ys its->GZ mk its ss)/\ss.length<4000/\∀S,H S=none->Q (.ref S) (upd H S (y4 kd kf S (eB ss)))):=by
 intro af s σ H xs us Q I r h;obtain⟨p,ys,ss,rfl,hq,hs,d,q⟩:=h;obtain⟨u,rfl,a⟩:=eC r;cases a
 obtain⟨its,c,pl,hz⟩:=I.list hq;obtain⟨M,O⟩:=hs _ c;refine tq U (I.ok.hd hc) pl.isList (by simpa using O) (by simp[M]) (by grind[scanBound]) λh' tk hS hk=>?_;refine⟨.ref _,_,I.laid (λb u e=>hk b u (vX e) e) (vT _) ?_,rr,q _ (I.hok.fresh (vT _))⟩;refine⟨hS,?_,λh1 h2 z k=>z.at k⟩;obtain⟨o,_,_,_,ho,_⟩:=hS;exact⟨o,ho⟩
def pq (b:KOf kd kf mk)(c:yx X.prog X.w kf mk λM=>aL ((sf M).map mv))(sl:∀M,(sf M).length=M.length)(hc:X.calm=true):bg X (.builtin "sorted") (λxs H Q=>∃S M,xs=[.ref S]/\H S=some (y4 kd kf S M)/\M.length<64/\∀l,H l=none->Q (.ref l) (upd H l (.lst ((sf M).map mv)))):=by
 intro af s σ H xs us Q I r h;obtain⟨S,M,rfl,hS,O,q⟩:=h;obtain⟨u,rfl,d⟩:=eC r;cases d
 refine AM b c (I.ok.hd hc) (I.hok S _ hS).1 O λs1 h' a out n k1 ho e k2 hp he hv=>?_;have U:=np I k1 ho e;refine⟨.ref a,_,U.laid k2 hp (show bf _ _ _ h' _ (.lst _)from ⟨?_,out.toList,n,hv,he⟩),rr,q _ (U.hok.fresh hp)⟩;rw[vI,sl,sizeLine_eq];lia
end
def ZK {prog:Program}{w:World}:KOf (PySem.strKind prog w) strOf .str:=⟨strKind_is _ w,λh=>Value.isStrOf_shape h,λ_ _=>rr,λ_ _=>rr⟩
theorem nq:∀ {its:LU}{zs:LS},StrsAre its zs->aL (zs.map V.str) its
 |_,_,.nil=>.nil
 |_,_,.cons x t r=>.cons ⟨t,rr⟩ (nq r)
def soS {prog:Program}{w:World}:yx prog w strOf .str λa=>aL ((kP a).map V.str):=λh1 h2 h3 ho h=>by
 have M:=strsAre_map _ h1;refine list_sort_treeK strKind_oneLt ho M.keysOf (λO U aj e=>keyKind_strs (by rw[<-e];exact M)) h3 λf b c=>?_;obtain⟨d,b1,b2,b3⟩:=sorted_out_str M b c;have e:=ug (b2.trans h2) b3;subst e;exact h _ (nq b1)
def Eu (M:LS):(kP M).length=M.length:=(cz M).length_eq
def StrsAre.keys (h:StrsAre its ss):GZ .str its ss:=⟨by rw[<-h.strs,vI],StrsAre.at h⟩
@[simp] def ml:D->OB
 |.lst ds=>(dL ds).bind λss=>if ss.length<64 then some (.lst ((kP (eB ss)).map .str),true)else none
 |_=>none
@[simp] def wz:D->OB
 |.lst ds=>(dL ds).bind λss=>if ss.length<4000 then some (.int ((eB ss).length:Nat),false)else none
 |_=>none
def qt:bootBuiltins "sorted" = some (.builtin "sorted"):=I9
def ON:bootBuiltins "set" = some (.type "set"):=I9
theorem qu {K:Frag}{N:Hp}:∀(zs:LS),IsL K N (zs.map V.str) (zs.map D.str)
 |[]=>.nil
 |z::zs=>.cons (.str z) (qu zs)
@[simp] def Ha {κ:Type}[DecidableEq κ](M:LD->Option (List κ))(O:List κ->List κ)(U:κ->D):D->OB
 |.lst ds=>(M ds).bind λss=>if ss.length<64 then some (.lst ((O (eB ss)).map U),true)else none
 |_=>none
section
variable {X:Cx}{e:Expr}{pos pos2 p p2:Pos}{κ:Type}[DecidableEq κ] {kd:PySem.KeyKind X.prog X.w κ}{kf:Value->κ}{mk:κ->Tok->Value}{sf:List κ->List κ}{mv:κ->V}{md:κ->D}{ef:LD->Option (List κ)}
def y6 (g:KOf kd kf mk)(i:yx X.prog X.w kf mk λU=>aL ((sf U).map mv))(sl:∀U,(sf U).length=U.length)(im:∀ {N:Hp}(zs:List κ),IsL X.K N (zs.map mv) (zs.map md))(ka:∀ {B ys ds its ss},aL ys its->IsL X.K B ys ds->ef ds=some ss->GZ mk its ss)
  (hc:X.calm=true) (m1:X.mg "sorted" = none) (m2:X.mg "set" = none) (he:JE X e f) (g1:Gl X "sorted":=by rfl) (j:Gl X "set":=by rfl)
  (h1:starEach [e] X.env=(false,eval e X.env)::starEach [] X.env:=by rfl):JE X (.Call (.Name "sorted" p) [.Call (.Name "set" p2) [e] [] pos2] [] pos) (f1 (Ha ef sf md) f):=by
 refine PE.to (pP (pq g i sl hc) g1 m1 qt (dB (mV (o7 g hc) j m2 ON (dB he f6 h1) (he:=h1)) f6)) λσ H Q q=>?_;obtain⟨B,ρ,d',bb,k,r,M,q⟩:=q;obtain⟨b,ex,M⟩:=oX M;refine⟨B,ρ,b.1,b.2,k,r,ex,λv u N1 a i1 x=>?_⟩;obtain⟨xd,y⟩:=b;cases i1<;>try (simp[Ha]at M;done)
 rename_i z vs ds h hl;obtain⟨ss,m,M⟩:=oX M;split at M
 .rename_i n;cases M
  refine⟨_,_,ss,rr,a.nh.seq h,λits s=>ka s hl m,by omega,λS hS=>⟨S,_,rr,au,lt_of_le_of_lt (mf ss) n,λl O=>?_⟩⟩;have c:=Ext.laid (o:=y4 kd kf S (eB ss)) a.nh hS;have t:=Ext.laid (o:=.lst ((sf (eB ss)).map mv)) c.nh O;have d:H l=none:=((a.trans c).hh).free O;exact q _ _ _ ((a.trans c).trans t) (.lst (fD.of au) (im _)) λ_=>⟨_,_,_,rr,rr,d,au,im _⟩
 simp_all
def AQ (hc:X.calm=true)(m1:X.mg "sorted" = none)(m2:X.mg "set" = none)(he:JE X e f)(g1:Gl X "sorted")(M:Gl X "set")
  (h1:starEach [e] X.env=(false,eval e X.env)::starEach [] X.env):JE X (.Call (.Name "sorted" p) [.Call (.Name "set" p2) [e] [] pos2] [] pos) (f1 ml f):=by
 exact y6 ZK soS Eu qu (λO hl U=>StrsAre.keys (ga O hl U)) hc m1 m2 he g1 M h1
end
end DL
namespace DL
open PySem PySem.Spec PySem.W PyProof.Rows
inductive Run (n:Nat)(lt:Nat->Nat->Bool){α:Type}:KasT α->α->Prop where
 |ret (a:α):Run n lt (.ret a) a
 |ask {i j:Nat}{k:Bool->KasT α}{a:α}(hi:i<n) (hj:j<n) (h:Run n lt (k (lt i j)) a):Run n lt (.ask i j k) a
def Run.bind {n:Nat}{lt:Nat->Nat->Bool}{α M:Type}{t:KasT α}{f:α->KasT M}{a:α}{b:M}(h:Run n lt t a)(k:Run n lt (f a) b):Run n lt (t.bind f) b:=by
 induction h with
 |ret a=>exact k
 |ask hi hj _ O=>exact .ask hi hj (O k)
def Run.wp {n:Nat}{lt:Nat->Nat->Bool}{α:Type}{M:Nat->Nat->(Bool->Shared->Prop)->Shared->Prop}{Q:α->Shared->Prop}{t:KasT α}{a:α}(J:Shared->Prop)
  (hc:∀i j C s,i<n->j<n->J s->(∀s',J s'->C (lt i j) s')->M i j C s) (h:Run n lt t a):∀ {s:Shared},J s->(∀s',J s'->Q a s')->t.kasWp M Q s:=by
 induction h with
 |ret a=>intro s O U;exact U s O
 |ask hi hj _ c=>intro s O U;exact hc _ _ _ _ hi hj O λs' b=>c b U
section
variable {n:Nat}{rk:Nat->Int}
noncomputable abbrev qw (rk:Nat->Int)(i j:Nat):Bool:=decide (rk i<rk j)
noncomputable def bK (rk:Nat->Int)(p:Array Nat)(k:Nat):Int:=rk (p.getD k 0)
structure mP (n:Nat)(p:Array Nat):Prop where
 size:p.size=n
 perm:p.toList.Perm (List.range n)
def mP.lt {p:Array Nat}(h:mP n p){k:Nat}(hk:k<n):p.getD k 0<n:=by
 have M:k<p.size:=by rw[h.size];exact hk
 have:p.getD k 0=p[k]:=by simp_all
 rw[this];exact mem_range.mp (h.perm.mem_iff.mp H9)
def mP.rev {p:Array Nat}(h:mP n p)(i j:Nat):mP n (kas_rev p i j):=
 ⟨(mirror_size _ _ _ _).trans h.size,(Array.perm_iff_toList_perm.mp (mirror_perm p i j _)).trans h.perm⟩
def mP.bub {p:Array Nat}(h:mP n p)(k d:Nat):mP n (bubble p k d):=
 ⟨(bubble_size _ _ _).trans h.size,(Array.perm_iff_toList_perm.mp (bubble_perm p k d)).trans h.perm⟩
def w4 {p:Array Nat}{i j:Nat}(hj:j<=p.size)(k:Nat):bK rk (kas_rev p i j) k=if i<=k/\k<j then bK rk p (i+j - 1 - k)else bK rk p k:=by
 unfold bK kas_rev;rw[Array.getD_eq_getD_getElem?,getElem?_mirror_all hj];split<;>simp_all
def Hb {p:Array Nat}{M d:Nat}(hs:M<p.size)(hd:d<=M)(k:Nat):bK rk (bubble p M d) k=if k=M - d then bK rk p M else if M - d<k/\k<=M then bK rk p (k - 1)else bK rk p k:=by
 unfold bK;simp [Array.getD_eq_getD_getElem?];rw[getElem?_bubble hs d hd];repeat' split
 all_goals rfl
def Up (rk:Nat->Int)(p:Array Nat)(m:Nat):Prop:=∀i j,i<=j->j<m->bK rk p i<=bK rk p j
def w6 (rk:Nat->Int)(p:Array Nat)(m:Nat):Prop:=∀i j,i<=j->j<m->bK rk p j<=bK rk p i
def Rm (p:Array Nat):Up rk p 1:=λi j h1 h2=>by
 simp_all
theorem w9 {p:Array Nat}(h:mP n p){r:Nat}(c:r<=n):∀(f m:Nat),r - m=f->1<=m->m<=r->Up rk p m->∃M,Run n (qw rk) (kas_asc p f m) M/\m<=M/\M<=r/\Up rk p M/\(M<r->bK rk p M<bK rk p (M - 1))
 |0,m,hf,h1,hm,hu=>⟨m,.ret m,vT _,hm,hu,λz=>by lia⟩
 |f+1,m,hf,h1,hm,hu=>by
  have a:=h.lt (k:=m) N9;have b:=h.lt (k:=m - 1) N9;by_cases hc:bK rk p m<bK rk p (m - 1)
  .refine⟨m,.ask a b ?_,vT _,hm,hu,λ_=>hc⟩;have:qw rk _ _=true:=ou hc;rw[this];exact .ret m
  .have O:Up rk p (m+1):=λi j U hj=>by
    by_cases e:j=m
    .subst e;by_cases e2:i=j
     .subst e2;exact Int.le_refl _
     .have:=hu i (j - 1) N9 N9;lia
    .exact hu i j U N9
   obtain⟨M,d,q2,g,l,o⟩:=w9 h c f _ N9 N9 N9 O;refine⟨M,.ask a b ?_,N9,g,l,o⟩;have:qw rk _ _=false:=xx hc;rw[this];exact d
def ME (rk:Nat->Int)(p:Array Nat)(m q:Nat):Prop:=q+1<=m/\∀k,m - (q+1)<=k->k<m->bK rk p k=bK rk p (m - 1)
def y7 {p:Array Nat}{m q:Nat}(hs:m<=p.size)(hf:ME rk p m q)(k:Nat):bK rk (kas_rev p (m - (q+1)) m) k=bK rk p k:=by
 rw[w4 hs];split
 .rename_i hk;rw[hf.2 k hk.1 hk.2,hf.2 _ N9 N9]
 .rfl
def Co {p M:Array Nat}{m:Nat}(e:∀k,bK rk M k=bK rk p k)(h:w6 rk p m):w6 rk M m:=λi j h1 h2=>by rw[e,e];exact h i j h1 h2
def qx (p:Array Nat){m:Nat}(h:1<=m):ME rk p m 0:=⟨h,λk h1 h2=>by
 grind⟩
theorem mm {r:Nat}(t:r<=n):∀(f:Nat)(p:Array Nat)(m q:Nat),mP n p->r - m=f->1<=m->m<=r->w6 rk p m->ME rk p m q->∃M O a,Run n (qw rk) (kas_desc f p m q) (M,O,a)/\mP n M/\m<=O/\O<=r/\w6 rk M O/\ME rk M O a
 |0,p,m,q,h,hf,h1,hm,hd,hq=>⟨p,m,q,.ret _,h,vT _,hm,hd,hq⟩
 |f+1,p,m,q,h,hf,h1,hm,hd,hq=>by
  have b:=h.lt (k:=m) N9;have c:=h.lt (k:=m - 1) N9;have step:∀M:Array Nat,(∀k,bK rk M k=bK rk p k)->bK rk p m<=bK rk p (m - 1)->w6 rk M (m+1):=λM e A i j u hj=>by
   rw[e,e];by_cases z:j=m
   .subst z;by_cases y:i=j
    .subst y;exact Int.le_refl _
    .have:=hd i (j - 1) N9 N9;lia
   .exact hd i j u N9
  by_cases hc:bK rk p m<bK rk p (m - 1)
  .have U:qw rk (p.getD m 0) (p.getD (m - 1) 0)=true:=ou hc;by_cases d:q > 0
   .have e:=y7 (p:=p) (by rw[h.size];lia) hq;obtain⟨M,O,a,g1,g,w,l,o,s⟩:=mm t f (kas_rev p (m - (q+1)) m) (m+1) 0 (h.rev _ _) N9 N9 N9 (step _ e N9) (qx _ N9);refine⟨M,O,a,.ask b c ?_,g,N9,l,o,s⟩;rw[U,if_pos rr,if_pos d];exact g1
   .obtain⟨M,O,a,g1,g,w,l,o,s⟩:=mm t f p (m+1) 0 h N9 N9 N9 (step _ (λ_=>rr) N9) (qx _ N9);refine⟨M,O,a,.ask b c ?_,g,N9,l,o,s⟩;rw[U,if_pos rr,if_neg d];exact g1
  .have U:qw rk (p.getD m 0) (p.getD (m - 1) 0)=false:=xx hc;by_cases x:bK rk p (m - 1)<bK rk p m
   .have v:qw rk (p.getD (m - 1) 0) (p.getD m 0)=true:=ou x;refine⟨p,m,q,.ask b c ?_,h,vT _,hm,hd,hq⟩;rw[U,if_neg uX];refine .ask c b ?_;rw[v,if_pos rr];exact .ret _
   .have v:qw rk (p.getD (m - 1) 0) (p.getD m 0)=false:=xx x;have he:bK rk p m=bK rk p (m - 1):=N9
    obtain⟨M,O,a,g1,g,w,l,o,s⟩:=mm t f p (m+1) (q+1) h N9 N9 N9 (step _ (λ_=>rr) N9) ⟨by have:=hq.1;lia,λk k1 k2=>by
     rw[Nat.add_sub_cancel];by_cases z:k=m
     .rw[z]
     .rw[hq.2 k N9 N9,he]⟩
    refine⟨M,O,a,.ask b c ?_,g,N9,l,o,s⟩;rw[U,if_neg uX];refine .ask c b ?_;rw[v,if_neg uX];exact g1
def y8 {r:Nat}(U:r<=n){p:Array Nat}(h:mP n p){m:Nat}(h1:1<=m)(hm:m<=r)(hd:w6 rk p m):∃M O,Run n (qw rk) (kas_tail3 m r p) (M,O)/\mP n O/\1<=M/\M<=r/\Up rk O M:=by
 have hu:Up rk (kas_rev p 0 m) m:=λi j a hj=>by
  rw[w4 (by rw[h.size];lia),w4 (by rw[h.size];lia),if_pos N9,if_pos N9];exact hd _ _ N9 N9
 obtain⟨M,b,q2,c,d,_⟩:=w9 (h.rev 0 m) U _ m rr h1 hm hu;exact⟨M,_,b.bind (.ret _),h.rev 0 m,N9,c,d⟩
def y9 {r:Nat}(U:r<=n){p:Array Nat}(h:mP n p){m:Nat}(hm:m+1<=r)(hd:w6 rk p (m+1)):∃M O,Run n (qw rk) (kas_descPart m r p) (M,O)/\mP n O/\1<=M/\M<=r/\Up rk O M:=by
 obtain⟨f,m1,d,g1,a,g,b,c,e⟩:=mm U _ p _ 0 h rr N9 hm hd (qx _ N9);by_cases hq:d > 0
 .obtain⟨M,O,k1,k2,k3,k4,k5⟩:=y8 U (a.rev _ m1) N9 b (Co (y7 (by rw[a.size];lia) e) c);exact⟨M,O,g1.bind (by simp_all),k2,k3,k4,k5⟩
 .obtain⟨M,O,k1,k2,k3,k4,k5⟩:=y8 U a N9 b c;exact⟨M,O,g1.bind (by simp_all),k2,k3,k4,k5⟩
def Ev {p:Array Nat}(h:mP n p)(hn:1<=n):∃M U,Run n (qw rk) (kas_count n p) (M,U)/\mP n U/\1<=M/\M<=n/\Up rk U M:=by
 obtain⟨m,b,q2,f,c,l⟩:=w9 h (vT n) (n - 1) 1 rr (vT 1) hn (Rm (rk:=rk) p);by_cases e:m=n
 .exact⟨m,p,b.bind (by rw[if_pos (by simp[e])];exact .ret _),h,q2,f,c⟩
 .have q:=l N9;have g:¬(m == n)=true:=by simp[e]
  by_cases a:m > 1
  .by_cases hc:bK rk p 0<bK rk p (m - 1)
   .refine⟨m,p,b.bind ?_,h,q2,f,c⟩;rw[if_neg g,if_pos a];refine .ask (h.lt N9) (h.lt N9) ?_;have:qw rk (p.getD 0 0) _=true:=ou hc;rw[this,if_pos rr];exact .ret _
   .have O:∀k,k<m->bK rk p k=bK rk p 0:=λk hk=>by
     have r:=c 0 k N9 hk;have s:=c k (m - 1) N9 N9;simp_all<;>lia
    have er:∀k,bK rk (kas_rev p 0 m) k=bK rk p k:=λk=>by
     rw[w4 (by rw[h.size];lia)];split
     .rename_i z;rw[O _ N9,O k z.2]
     .rfl
    have hd:w6 rk p (m+1):=λi j d hj=>by
     grind
    obtain⟨M,U,k1,k2,k3,k4,k5⟩:=y9 (vT n) (h.rev 0 m) (m:=m) N9 (Co er hd);refine⟨M,U,b.bind ?_,k2,k3,k4,k5⟩;rw[if_neg g,if_pos a];refine .ask (h.lt N9) (h.lt N9) ?_;have:qw rk (p.getD 0 0) _=false:=xx hc;rw[this];exact k1
  .have o:m=1:=N9
   subst o;have hd:w6 rk p 2:=λi j d hj=>by
    grind
   obtain⟨M,U,k1,k2,k3,k4,k5⟩:=y9 (vT n) h (m:=1) N9 hd;refine⟨M,U,b.bind ?_,k2,k3,k4,k5⟩;simp_all
theorem nu {p:Array Nat}(h:mP n p){k:Nat}(hk:k<n)(hu:Up rk p k):∀(f l r:Nat),r - l<=f->l<=r->r<=k->(∀i,i<l->bK rk p i<=bK rk p k)->(∀i,r<=i->i<k->bK rk p k<bK rk p i) ->
  ∃M,Run n (qw rk) (kas_place p k f l r) M/\M<=k/\(∀i,i<M->bK rk p i<=bK rk p k)/\(∀i,M<=i->i<k->bK rk p k<bK rk p i)
 |0,l,r,hf,hl,e,h1,h2=>⟨l,.ret l,N9,h1,λi a b=>h2 i N9 b⟩
 |f+1,l,r,hf,hl,e,h1,h2=>by
  by_cases O:l ≥ r
  .refine⟨l,?_,N9,h1,λi a b=>h2 i N9 b⟩;unfold kas_place;rw[if_pos O];exact .ret l
  .by_cases hc:bK rk p k<bK rk p ((l+r) / 2)
   .obtain⟨M,U,q2,c,d⟩:=nu h hk hu f l ((l+r) / 2) N9 N9 N9 h1 λi a b=>by
     have:=hu _ i a b;lia
    refine⟨M,?_,q2,c,d⟩;unfold kas_place;rw[if_neg O];refine .ask (h.lt N9) (h.lt N9) ?_;have:qw rk _ _=true:=ou hc;rw[this];exact U
   .obtain⟨M,U,q2,c,d⟩:=nu h hk hu f ((l+r) / 2+1) r N9 N9 e (λi a=>by
     have:=hu i ((l+r) / 2) N9 N9;lia) h2
    refine⟨M,?_,q2,c,d⟩;unfold kas_place;rw[if_neg O];refine .ask (h.lt N9) (h.lt N9) ?_;have:qw rk _ _=false:=xx hc;rw[this];exact U
theorem Cp:∀(f:Nat)(p:Array Nat)(k:Nat),mP n p->n - k=f->k<=n->Up rk p k->∃M,Run n (qw rk) (kas_bin f p k) M/\mP n M/\Up rk M n
 |0,p,k,h,hf,hk,hu=>⟨p,.ret p,h,(show k=n by lia) ▸ hu⟩
 |f+1,p,k,h,hf,hk,hu=>by
  have O:k<n:=N9
  obtain⟨l,g,q2,m,q⟩:=nu h O hu k 0 k N9 N9 (vT _) (λi z=>by lia) (λi a b=>by lia);have hsz:k<p.size:=by rw[h.size];exact O
  have U:Up rk (bubble p k (k - l)) (k+1):=λi j c hj=>by
   rw[Hb hsz N9,Hb hsz N9];have e:k - (k - l)=l:=N9
   rw[e];by_cases i1:i=l
   .grind
   .rw[if_neg i1];by_cases i2:l<i/\i<=k
    .rw[if_pos i2,if_neg N9,if_pos N9];exact hu _ _ N9 N9
    .rw[if_neg i2];by_cases d:j=l
     .rw[if_pos d];exact m i N9
     .rw[if_neg d];by_cases o:l<j/\j<=k
      .grind
      .rw[if_neg o];exact hu _ _ c N9
  obtain⟨M,k1,k2,k3⟩:=Cp f _ (k+1) (h.bub _ _) N9 N9 U;exact⟨M,g.bind k1,k2,k3⟩
def yA (hn:1<=n):∃p,Run n (qw rk) (kas_sort n) p/\mP n p/\Up rk p n:=by
 have h0:mP n (List.toArray (List.range n)):=⟨H9,H9⟩;obtain⟨m,p,O,q2,b,c,U⟩:=Ev h0 hn;by_cases e:m<n
 .have M:max m 1=m:=N9
  obtain⟨a,k1,k2,k3⟩:=Cp _ p (max m 1) q2 rr N9 (by rw[M];exact U);exact⟨a,O.bind (by simp_all),k2,k3⟩
 .have:m=n:=N9
  subst this;exact⟨p,O.bind (by rw[if_neg e];exact .ret _),q2,U⟩
end
def Ew {a b c:LI}(h:a<b)(k:b<c):a<c:=lt_trans h k
def Ex {a b c:LI}(h:¬b<a)(k:¬c<b):¬c<a:=by grind
def Hd {a b:LI}(h:¬b<a)(k:¬a<b):a=b:=by grind
section
variable {α:Type}(f:α->LI)
def He (a b:α):Prop:=¬f b<f a
noncomputable def nv (x:α):List α->List α
 |[]=>[x]
 |y::r=>if f y<f x then y::nv x r else x::y::r
noncomputable def cL (l:List α):List α:=l.foldr (nv f) []
theorem nw (x:α):∀l,(nv f x l).Perm (x::l)
 |[]=>List.Perm.refl _
 |y::r=>by
  unfold nv;split
  .exact((nw x r).cons y).trans (List.Perm.swap x y r)
  rfl
theorem a9:∀l,(cL f l).Perm l
 |[]=>List.Perm.refl _
 |x::l=>(nw f x _).trans ((a9 l).cons x)
theorem uh (x:α):∀l,l.Pairwise (He f)->(nv f x l).Pairwise (He f)
 |[],_=>by simp[nv]
 |y::r,h=>by
  obtain⟨h1,h2⟩:=pairwise_cons.mp h;unfold nv;split
  .rename_i hl;refine pairwise_cons.mpr ⟨λz hz=>?_,uh x r h2⟩;rcases vP ((nw f x r).mem_iff.mp hz)with rfl|hz
   .exact λk=>lt_irrefl _ (Ew hl k)
   simp_all
  .rename_i hl;refine pairwise_cons.mpr ⟨λz hz=>?_,h⟩;rcases vP hz with rfl|hz
   .exact hl
   .exact Ex hl (h1 z hz)
theorem bR:∀l,(cL f l).Pairwise (He f)
 |[]=>List.Pairwise.nil
 |x::l=>uh f x _ (bR l)
theorem ny:∀(l1 l2:List α),(∀x∈l1,∀y∈l1,f x=f y->x=y)->l1.Perm l2->l1.Pairwise (He f)->l2.Pairwise (He f)->l1=l2
 |[],l2,_,p,_,_=>(nil_perm.mp p).symm
 |x::U,[],_,p,_,_=>absurd p.length_eq H9
 |x::U,y::c,hi,p,h1,h2=>by
  have hy:=p.mem_iff.mpr (mX ..);have M:He f x y:=by
   rcases vP hy with z|z
   .rw[z];exact lt_irrefl _
   simp_all
  have O:He f y x:=by
   rcases vP (p.mem_iff.mp (mX ..))with z|z
   .rw[z];exact lt_irrefl _
   simp_all
  have e:=hi x (mX ..) y hy (Hd M O);subst e;rw[ny U c (λa ha b hb=>hi a (mZ _ ha) b (mZ _ hb)) (List.Perm.cons_inv p) (pairwise_cons.mp h1).2 (pairwise_cons.mp h2).2]
theorem dS (hi:∀x∈l,∀y∈l,f x=f y->x=y)(p:M.Perm l)(h:M.Pairwise (He f)):M=cL f l:=
 ny f _ _ (λx hx y hy=>hi x (p.mem_iff.mp hx) y (p.mem_iff.mp hy)) (p.trans (a9 f l).symm) h (bR f l)
end
theorem lw {α:Type}{p q:α->Bool}(h:∀x,p x=true->q x=true)(l:List α):(l.filter p).length<=(l.filter q).length:=by
 rw[<-List.countP_eq_length_filter,<-List.countP_eq_length_filter];exact List.countP_mono_left λx _=>h x
noncomputable def qy (cs:List LI)(c:LI):Int:=((cs.filter λx=>decide (x<c)).length:Nat)
def MF {cs:List LI}{a b:LI}(h:¬b<a):qy cs a<=qy cs b:=by
 refine Int.ofNat_le.mpr (lw (λx hx=>?_) cs);grind
def wA {cs:List LI}{a b:LI}(ha:a∈cs)(h:a<b):qy cs a<qy cs b:=by
 obtain⟨s,t,rfl⟩:=List.append_of_mem ha;have tr:∀x:LI,decide (x<a)=true->decide (x<b)=true:=λx hx=>decide_eq_true (List.lt_trans (of_decide_eq_true hx) h)
 have k1:=lw tr s;have k2:=lw tr t;apply Int.ofNat_lt.mpr;rw[List.filter_append,List.filter_append,List.filter_cons_of_neg (by simp[List.lt_irrefl]),List.filter_cons_of_pos (by simpa using h),List.length_append,List.length_append,List.length_cons];clear ha tr h
 lia
def yB (ha:a∈cs):decide (qy cs a<qy cs b)=decide (a<b):=by
 by_cases h:a<b
 .simp_all[wA]
 simp_all[xx,MF]
set_option genInjectivity true in
inductive At where
 |i (n:Int)
 |s (z:Str)
noncomputable def Rn:At->LI
 |.i n=>[n]
 |.s z=>z.cps.toList.map (λ(c:Nat)=>(c:Int)+1)++[0]
def bP (xs:List At):LI:=xs.flatMap Rn
noncomputable def aU:List At->List At->Option Bool
 |[],ys=>some (!ys.isEmpty)
 |_::_,[]=>some false
 |.i a::xs,.i b::ys=>if a=b then aU xs ys else some (decide (a<b))
 |.s a::xs,.s b::ys=>if a=b then aU xs ys else some (decide (a.cps.toList<b.cps.toList))
 |_::_,_::_=>none
theorem wB:∀(a b:LN)(r M:LI),(a.map (λ(c:Nat)=>(c:Int)+1)++0::r)<(b.map (λ(c:Nat)=>(c:Int)+1)++0::M)↔a<b\/(a=b/\r<M)
 |[],[],r,M=>by simp
 |[],y::b,r,M=>by simp[cons_lt_cons_iff]
 |x::a,[],r,M=>by simp[cons_lt_cons_iff];lia
 |x::a,y::b,r,M=>by
  rw[uY,uY,cons_append,cons_append,cons_lt_cons_iff,wB a b r M,cons_lt_cons_iff,Int.add_lt_add_iff_right,Int.ofNat_lt,Int.add_left_inj,Int.ofNat_inj,List.cons.injEq,and_or_left,or_assoc,and_assoc]
def nA (x:At)(xs:List At):bP (x::xs)=Rn x++bP xs:=Y9
def Ro (x:At):Rn x≠[]:=by cases x<;>simp[Rn]
theorem Cr {a b:Str}:a.cps.toList=b.cps.toList↔a=b:=by
 constructor
 .obtain⟨a⟩:=a;simp_all
 lia
theorem p7:∀(xs ys:List At)(b:Bool),aU xs ys=some b->b=decide (bP xs<bP ys)
 |[],[],b,h=>by simp_all[aU]
 |[],y::ys,b,h=>by
  simp[aU]at h;subst h;rw[nA];cases e:Rn y with
  |nil=>exact absurd e (Ro y)
  |cons c cs=>simp[bP]
 |x::xs,[],b,h=>by simp_all[aU,bP]
 |.i a::xs,.i c::ys,b,h=>by
  rw[aU]at h;show b=decide (a::bP xs<c::bP ys);split at h
  .rename_i e;subst e;rw[p7 xs ys b h];simp
  .simp_all[cons_lt_cons_iff]
 |.s a::xs,.s c::ys,b,h=>by
  rw[aU]at h;rw[nA,nA];have M:∀(z:Str)(r:List _),Rn (.s z)++r=z.cps.toList.map (λ(c:Nat)=>(c:Int)+1)++0::r:=λz r=>by simp[Rn]
  rw[M,M];split at h
  .rename_i e;rw[p7 xs ys b h];grind[wB]
  grind[wB,Cr]
 |.i _::_,.s _::_,b,h=>by simp[aU]at h
 |.s _::_,.i _::_,b,h=>by simp[aU]at h
theorem AR:∀(xs ys:List At),aU xs ys=some false->aU ys xs=some false->xs=ys
 |[],[],_,_=>rr
 |[],y::ys,h,_=>by simp[aU]at h
 |x::xs,[],_,h=>by simp[aU]at h
 |.i a::xs,.i c::ys,h,k=>by
  rw[aU]at h k;by_cases e:a=c
  .subst e;rw[if_pos rr]at h k;rw[AR xs ys h k]
  lia
 |.s a::xs,.s c::ys,h,k=>by
  rw[aU]at h k;by_cases e:a=c
  .subst e;rw[if_pos rr]at h k;rw[AR xs ys h k]
  .rw[if_neg e]at h;rw[if_neg (Ne.symm e)]at k;simp only[Option.some.injEq,decide_eq_false_iff_not]at h k;exact absurd (Cr.mp (List.le_antisymm (not_lt.mp k) (not_lt.mp h))) e
 |.i _::_,.s _::_,h,_=>by simp[aU]at h
 |.s _::_,.i _::_,h,_=>by simp[aU]at h
noncomputable def cy (ks:List (List At)):Bool:=ks.all λx=>ks.all λy=>(aU x y).isSome
theorem fK (h:cy ks=true)(hx:x∈ks)(hy:y∈ks):aU x y=some (decide (bP x<bP y)):=by
 have:=all_eq_true.mp (all_eq_true.mp h x hx) y hy;obtain⟨b,e⟩:=uU this;rw[e,p7 _ _ _ e]
theorem kg (h:cy ks=true)(hx:x∈ks)(hy:y∈ks)(e:bP x=bP y):x=y:=by
 refine AR _ _ ?_ ?_
 .grind[fK]
 grind[fK]
def Ak:At->Value->Prop
 |.i n,v=>∃t,v=.int n t
 |.s z,v=>∃t,v=.str z t
def dP (h:Heap)(xs:List At)(v:Value):Prop:=∃a o its n,v=.ref a/\h.get? a=some o/\o.cls=.type "tuple"/\o.data=.seq its n/\Paired Ak xs its.toList
def dP.keep (x:dP h xs v)(k:∀a o,o.cls=.type "tuple"->h.get? a=some o->h'.get? a=some o):dP h' xs v:=by
 obtain⟨a,o,its,n,e,ho,hc,r⟩:=x;exact⟨a,o,its,n,e,k a o hc ho,hc,r⟩
noncomputable def cC (ks:List (List At)):Bool:=ks.all (λx=>match x with|.i _::_=>true|_=>false) || ks.all (λx=>match x with|.s _::_=>true|_=>false)
section
variable {prog:Program}{w:World}{A:Around}{E:QV}{s:Shared}
def Hf (xs ys:List At)(its M:LU)(i:Nat)(U:Paired Ak xs its)(d:Paired Ak ys M)(h:aU xs ys=some b)(hf:dI=decide (xs.length<ys.length))(q:Q b s):KatLex prog w A true dI Q (its.zip M) i s:=by
 induction U generalizing ys M i with
 |nil=>
  refine kat_nil ?_;cases ys with
  |nil=>simp_all[aU]
  |cons y ys=>simp_all[aU]
 |@cons x v xs its U g f=>
  cases d with
  |nil=>
   simp_all[kat_nil,aU]
  |@cons y u ys M d O=>
   cases x with
   |i a=>
    cases y with
    |s _=>simp[aU]at h
    |i c=>
     obtain⟨t,rfl⟩:=U;obtain⟨u,rfl⟩:=d;refine kat_cons (wpAny_eqBool_int ?_);rw[aU]at h;by_cases e:a=c
     .rw[if_pos e]at h;rw[show(a == c)=true by simp[e]];exact kat_yes (f ys M (i+1) O h (by rw[hf];simp))
     .rw[if_neg e]at h;cases h
      rw[show(a == c)=false by simp[e]];refine kat_no ?_;cases hb:(true && i == 0) with
      |true=>exact oneLt_int q
      |false=>exact kat_one _ _ (PyProof.Rows.lt_int q)
   |s a=>
    cases y with
    |i _=>simp[aU]at h
    |s c=>
     obtain⟨t,rfl⟩:=U;obtain⟨u,rfl⟩:=d;refine kat_cons (wpAny_eqBool_str ?_);rw[aU]at h;by_cases e:a=c
     .rw[if_pos e]at h;rw[ou e];exact kat_yes (f ys M (i+1) O h (by rw[hf];simp))
     .rw[if_neg e]at h;cases h
      rw[xx e];refine kat_no ?_;cases hb:(true && i == 0) with
      |true=>exact oneLt_str q
      |false=>exact kat_one _ _ (PySem.P.lt_str q)
theorem dF {α U:Type}{F:α->U->Prop}:∀ {M:List α}{O:List U},Paired F M O->M.length=O.length
 |_,_,.nil=>rr
 |_,_,.cons _ t=>by simp[dF t]
def Rp {Q:Bool->Shared->Prop}{xs ys:List At}{x y:Value}{b:Bool}(hx:dP s.heap xs x)(hy:dP s.heap ys y)(h:aU xs ys=some b)(q:Q b s):wpAny (model prog w) A (keyLt' (tuples' true) x y) Q E s:=by
 obtain⟨a,o,its,n,rfl,ho,_,hd,r⟩:=hx;obtain⟨c,o',its',d,rfl,M,_,O,U⟩:=hy;refine kat_lt ho hd M O (Hf xs ys _ _ 0 r U h ?_ q);rw[<-vG,<-vG,dF r,dF U]
theorem o8:∀ {ks:List (List At)}{vs:LU},Paired (dP h) ks vs->(∀k∈ks,k≠[])->∃fs,KatTups h vs fs/\fs.length=ks.length/\∀v∈fs,∃k r,(k::r)∈ks/\Ak k v
 |_,_,.nil,_=>⟨[],trivial,rr,H9⟩
 |k::ks,_,.cons x t,M=>by
  obtain⟨fs,h1,h2,h3⟩:=o8 t λz hz=>M z (mZ _ hz);obtain⟨a,o,its,n,rfl,ho,hc,hd,r⟩:=x;cases O:its.toList with
  |nil=>
   rw[O]at r;cases r
   simp_all
  |cons v vs=>
   rw[O]at r;obtain⟨p,U⟩:∃p,its[0]? = some v:=⟨(),by rw[<-Array.getElem?_toList,O];rfl⟩;cases r with
   |cons q b=>
    refine⟨v::fs,KatTups.cons ho hc hd U h1,by simp[h2],λu hu=>?_⟩;grind
def yC (hp:Paired (dP s.heap) ks vs)(hf:cC ks=true)(hn:0<ks.length)(q:Q (tuples' true) s):wpAny (model prog w) A (keyKind' vs.toArray) Q E s:=by
 have M:∀k∈ks,k≠[]:=λk hk z=>by
  subst z;unfold cC at hf;rw[Bool.or_eq_true]at hf;rcases hf with hf|hf
  .have:=all_eq_true.mp hf [] hk;simp at this
  .have:=all_eq_true.mp hf [] hk;simp at this
 obtain⟨fs,h1,h2,h3⟩:=o8 hp M;unfold cC at hf;rw[Bool.or_eq_true]at hf;rcases hf with hf|hf
 .refine kat_kind (T:=.type "int") h1 N9 (λv hv=>?_) O9 q;obtain⟨k,r,m,z⟩:=h3 v hv;have:=all_eq_true.mp hf _ m;cases k with
  |i n=>obtain⟨t,rfl⟩:=z;exact .now
  |s O=>simp at this
 .refine kat_kind (T:=.type "str") h1 N9 (λv hv=>?_) O9 q;obtain⟨k,r,m,z⟩:=h3 v hv;have:=all_eq_true.mp hf _ m;cases k with
  |s O=>obtain⟨t,rfl⟩:=z;exact .now
  |i n=>simp at this
end
section
variable {prog:Program}{w:World}{A:Around}{E:QV}{s:Shared}
theorem dG {α U:Type}{F:α->U->Prop}(d:α)(e:U):∀ {M:List α}{O:List U},Paired F M O->∀ {i:Nat},i<M.length->F (M.getD i d) (O.getD i e)
 |_,_,.cons r t,0,_=>r
 |_,_,.cons r t,i+1,h=>by
  exact dG d e t (by simpa using h)
 |_,_,.nil,i,h=>by simp at h
def Al (ks:List (List At))(i:Nat):Int:=qy (ks.map bP) (bP (ks.getD i []))
def Cs {ks:List (List At)}{vs:LU}(hc:cy ks=true)(hp:Paired (dP s.heap) ks vs):∀(i j:Nat)(C:Bool->Shared->Prop)(s1:Shared),i<ks.length->j<ks.length->s1=s->(∀s',s'=s->C (qw (Al ks) i j) s')->kas_ask prog w A (tuples' true) vs i j C s1:=by
 intro i j C s1 hi hj e O;subst e;have M:ks.getD i []∈ks:=by simp_all
 have U:ks.getD j []∈ks:=by simp_all
 refine Rp (dG [] _ hp hi) (dG [] _ hp hj) (fK hc M U) ?_;have:=O s1 rr;unfold qw Al at this;rw[yB (uS ⟨_,M,rr⟩)]at this;exact this
def Ey (ho:s.heap.get? a=some (seqObj "list" vs.toArray n))(hk:Paired (dP s.heap) ks vs)(hc:cy ks=true)(hf:cC ks=true)(B:vs.length<64)
  (h:∀p:Array Nat,mP vs.length p->Up (Al ks) p vs.length->P (.done (.ret .none)) { s with heap:=sortedHeap s.heap a vs (List.toArray (p.toList.map λi=>vs.getD i Value.none)) }):
  wpAny (model prog w) A (Builtin.«list.sort» ⟨[.ref a],[]⟩) P E s:=by
 have ha:=vX ho;have T:ks.length=vs.length:=dF hk;obtain⟨f,l⟩:∃f,(s.heap.update a (Obj.mapSeq λ_=>#[])).get? a=some (seqObj "list" #[] f):=⟨_,get?_update_seq ho (λ_=>#[])⟩;let U:Heap:=((s.heap.update a (Obj.mapSeq λ_=>#[])).push (seqObj "tuple" vs.toArray 0)).push (seqObj "list" #[] 0);have g:∀b u,b≠a->s.heap.get? b=some u->U.get? b=some u:=λb u hb q=>
  vZ _ (vZ _ ((Heap.get?_update_ne _ _ _ _ hb).trans q))
 have c:U.get? a=some (seqObj "list" #[] f):=vZ _ (vZ _ l);have d:Paired (dP U) ks vs:=L2.Paired.mapP hk λk v x=>x.keep λb u V q=>g b u (λz=>by
  lia) q
 rw[list_sort_plain];refine wX (listItems_at ho rr (wX (listUpdate_at ho rr (wX (seqEpoch_at l rr (wX (wpAny_newTuple (wX (wpAny_newList (wpAny_holding ?_))) (by show vs.length<=sizeLine;rw[sizeLine_eq];lia))))))));dsimp only;have m:∀(st:SortSt)(p:Array Nat),arrOf st=p.map (kas_item (vs.toArray.zip vs.toArray))->failedOf st=none->mP vs.length p->Up (Al ks) p vs.length ->
   wpAny (model prog w) A (do
    let M:=(<-seqEpoch a) != f
    Builtin.List.listUpdate (.ref a) λ_=>(arrOf st).map (·.2)
    if let some e:=failedOf st then rule "list.sort.comparison-raised";throw e
    if M then rule "list.sort.modified";raiseError "ValueError" "list modified during sort"
    ret .none) P E { s with heap:=U }:=λst p D F ap H=>by
  have o:=kat_snds rr D;refine wX (seqEpoch_at c rr ?_);refine wX (listUpdate_at c rr ?_ (hsz2:=by rw[o];simp only[vH,vI,vG,ap.size,sizeLine_eq];lia));rw[F];simp only[bne_self_eq_false,uV,if_false];rw[o];exact wY (h p ap H)
 by_cases h2:vs.toArray.size<2
 .rw[if_pos h2,if_pos h2];refine wX (wY ?_);rw[StateT.run_pure];refine wX (wY ?_);have W:vs.length<2:=by simpa using h2
  refine m _ (List.toArray (List.range vs.length)) ?_ rr ⟨H9,H9⟩ ?_
  .grind[kas_range]
  .intro i j I hj;have:i=j:=N9
   subst this;exact Int.le_refl _
 .rw[if_neg h2,if_neg h2];have J:2<=vs.length:=by simp at h2;lia
  refine wX (yC (s:={ s with heap:=U }) d hf N9 ?_);obtain⟨p,K,L,N⟩:=yA (n:=vs.length) (rk:=Al ks) N9;refine wX (wpAny_mono (kat_run (E:=E) (ks:=vs) (vs:=vs) (κ:=tuples' true) (s:={ s with heap:=U }) (Q:=λO s'=>s'={ s with heap:=U }/\arrOf O=p.map (kas_item (vs.toArray.zip vs.toArray))/\failedOf O=none)
   (G:=λt s'=>t=p/\s'={ s with heap:=U }) rr J B (λt O s' _ e2 y X=>by
    simp_all) (Run.wp (λs'=>s'={ s with heap:=U }) (λi j C s1 hi hj e R=>Cs (s:={ s with heap:=U }) hc d i j C s1 N9 N9 e R) K rr λs' e=>⟨rr,e⟩)) (λr s' S=>?_) λ_ _ z=>z)
  obtain⟨⟨⟩,O⟩:=r;obtain⟨rfl,e2,y⟩:=S;exact m O p e2 y L N
def yD (hl:s.heap.IsList l vs.toArray)(hk:Paired (dP s.heap) ks vs)(hc:cy ks=true)(hf:cC ks=true)(O:vs.length<64)
  (h:∀p:Array Nat,mP vs.length p->Up (Al ks) p vs.length->Q (.ref (s.z+1)) { s with heap:=sortedAll s.heap vs (List.toArray (p.toList.map λi=>vs.getD i Value.none)) }):
  wpAny (model prog w) A (call (.builtin "sorted") [.ref l]) Q E s:=by
 let h1:=(s.heap.push (seqObj "list" #[] 0)).update s.z (Obj.mapSeq (· ++ vs.toArray));have hsz:h1.objs.size=s.z+1:=by grind[Heap.size_update,size_push']
 let h2:Heap:=h1.push (seqObj "list" vs.toArray 0);have M:h2.get? (s.z+1)=some (seqObj "list" vs.toArray 0):=by rw[<-hsz];exact vY _ rr
 have U:Paired (dP h2) ks vs:=L2.Paired.mapP hk λk v x=>x.keep λb u _ q=>
  vZ _ ((Heap.get?_update_ne _ _ _ _ (vS (vX q))).trans (vZ _ q))
 refine Calls.call_function_entry kind_sorted plain_sorted entry_sorted (args_sorted1 _) ?_;refine wX (wY (wX (collect_list hl (wX (wpAny_newList ?_)))));rw[show((s.heap.push _).update _ _).objs.size=s.z+1 from hsz];exact wX (wpAny_holding (wpAny_call_entry slot_list_sort ⟨_,M,rr⟩ entry_list_sort (Ey M U hc hf O λp ap a=>⟨_,rr,wY ⟨_,rr,h p ap a⟩⟩) (args_list_sort _)))
end
end DL
namespace DL
open PySem PySem.Spec PySem.W PyProof.Rows L2
noncomputable def ui:D->Option At
 |.int n=>some (.i n)
 |.str z=>some (.s z)
 |_=>none
def iN:LD->Option (List At)
 |[]=>some []
 |d::ds=>(ui d).bind λa=>(iN ds).map (a :: ·)
def nB:D->Option (List At)
 |.tup es=>iN es
 |_=>none
def du:LD->Option (List (List At))
 |[]=>some []
 |d::ds=>(nB d).bind λa=>(du ds).map (a :: ·)
def Hg (d:D):LI:=bP ((nB d).getD [])
noncomputable def jy:LD->Option LI
 |[]=>some []
 |.int n::ds=>(jy ds).map (n :: ·)
 |_::_=>none
def ft (ns:LI):LI:=cL (λn=>[n]) ns
def iO:LD->OB
 |[.lst ds]=>match dL ds with
  |some ss=>if ss.length<64 then some (.lst ((kP ss).map .str),true)else none
  |none=>match jy ds with
   |some ns=>if ns.length<64 then some (.lst ((ft ns).map .int),true)else none
   |none=>match du ds with
    |some ks=>if ks.length<64/\cy ks=true/\cC ks=true then some (.lst (cL Hg ds),true)else none
    |none=>none
 |_=>none
def Ez (h:ui d=some a)(k:ui e=some a):d=e:=by
 cases d<;>simp [ui]at h<;>cases h<;>cases e<;>simp [ui]at k<;>cases k<;>rfl
theorem qz:∀ {ds es:LD}{as:List At},iN ds=some as->iN es=some as->ds=es
 |[],[],_,_,_=>rr
 |[],e::es,as,h,k=>by
  cases h
  obtain⟨a,_,k⟩:=oX k;simp_all
 |d::ds,[],as,h,k=>by
  cases k
  obtain⟨a,_,h⟩:=oX h;simp_all
 |d::ds,e::es,as,h,k=>by
  obtain⟨a,h1,h⟩:=oX h;obtain⟨r,h2,h⟩:=oY h;obtain⟨U,k1,k⟩:=oX k;obtain⟨b,k2,k⟩:=oY k;subst h;injection k with M O;subst M;subst O;rw[Ez h1 k1,qz h2 k2]
theorem Hh (h:nB d=some k)(h':nB e=some k):d=e:=by
 cases d<;>simp [nB]at h<;>try (cases h)
 cases e<;>simp [nB]at h'<;>try (cases h')
 rw[qz h h']
theorem fL:∀ {ds:LD}{ks:List (List At)},du ds=some ks->ks.length=ds.length
 |[],_,h=>by simp_all[du]
 |d::ds,_,h=>by
  obtain⟨a,h1,h⟩:=oX h;obtain⟨r,h2,h⟩:=oY h;subst h;simp[fL h2]
theorem ib:∀ {ds:LD}{ks:List (List At)},du ds=some ks->∀ {i:Nat},i<ds.length->nB (ds.getD i .non)=some (ks.getD i [])
 |[],_,h,i,hi=>by simp at hi
 |d::ds,_,h,0,hi=>by
  obtain⟨a,h1,h⟩:=oX h;obtain⟨r,h2,h⟩:=oY h;subst h;exact h1
 |d::ds,_,h,i+1,hi=>by
  obtain⟨a,h1,h⟩:=oX h;obtain⟨r,h2,h⟩:=oY h;subst h;exact ib h2 (by simpa using hi)
def q8 {α:Type}(l:List α)(d:α):(List.range l.length).map (λi=>l.getD i d)=l:=by
 apply ext_getElem?;intro i;by_cases h:i<l.length
 .simp[h]
 .simp[h]
def AS (hk:du ds=some ks)(hc:cy ks=true)(ap:mP ds.length p)(U:Up (Al ks) p ds.length):p.toList.map (λi=>ds.getD i .non)=cL Hg ds:=by
 have mem:∀x∈ds,∃k∈ks,nB x=some k:=λx hx=>by
  obtain⟨i,hi,rfl⟩:=List.mem_iff_getElem.mp hx;have:=ib hk hi;grind[fL]
 apply dS Hg
 .grind[Hg,kg,Hh]
 .have:=ap.perm.map (λi=>ds.getD i .non);rw[q8]at this;exact this
 .rw[List.pairwise_iff_getElem];intro i j hi hj M;have hsz:=ap.size;have a:i<p.size:=by simpa using hi
  have b:j<p.size:=by simpa using hj
  have:=U i j (le_of_lt M) N9;unfold bK Al at this;have c:p.getD i 0=p[i]:=by simp_all
  have d:p.getD j 0=p[j]:=by simp_all
  have e:=ap.lt (k:=i) N9;have O:=ap.lt (k:=j) N9;have f:ks.getD (p.getD j 0) []∈ks:=by
   have h':p.getD j 0<ks.length:=by rw[fL hk];exact O
   rw[vF,vU h'];exact getElem_mem h'
  have g:¬bP _<bP (ks.getD (p.getD i 0) []):=λz=>by
   have:=wA (cs:=ks.map bP) (uS ⟨_,f,rr⟩) z;lia
  simp only[List.getElem_map,Array.getElem_toList];unfold He Hg;rw[<-c,<-d,ib hk e,ib hk O];exact g
section
variable {X:Cx}
theorem yE {K:Frag}{B:Hp}:∀ {vs:LV}{es:LD}{k:List At}{its:LU},aL vs its->IsL K B vs es->iN es=some k->Paired Ak k its
 |_,_,_,_,.nil,.nil,h=>by cases h;exact .nil
 |_,_,_,_,.cons r M,.cons i O,h=>by
  obtain⟨a,h1,h⟩:=oX h;obtain⟨t,h2,h⟩:=oY h;subst h;refine .cons ?_ (yE M O h2);cases i<;>simp [ui]at h1<;>cases h1
  .exact r
  .exact r
theorem mn {af:AO}{σ:St}{H:Hp}{s:Shared}(I:Inv X af σ H s):∀ {ys:LV}{ds:LD}{ks:List (List At)}{its:LU},aL ys its->IsL X.K H ys ds->du ds=some ks->Paired (dP s.heap) ks its
 |_,_,_,_,.nil,.nil,h=>by cases h;exact .nil
 |_,_,_,_,.cons r M,.cons i O,h=>by
  obtain⟨a,h1,h⟩:=oX h;obtain⟨t,h2,h⟩:=oY h;subst h;refine .cons ?_ (mn I M O h2);cases i<;>simp [nB]at h1<;>try (cases h1)
  rename_i hq hl;cases r
  obtain⟨its',U,⟨o,ho,hc,n,hd⟩,_⟩:=I.tuple hq;exact⟨_,o,_,n,rr,ho,hc,hd,by simpa using yE U hl h1⟩
theorem Ct {K:Frag}{B:Hp}:∀ {vs:LV}{ds:LD},IsL K B vs ds->∀ {i:Nat},i<ds.length->Is K B (vs.getD i .non) (ds.getD i .non)
 |_,_,.cons h _,0,_=>h
 |_,_,.cons _ t,i+1,hi=>by
  exact Ct t (by simpa using hi)
 |_,_,.nil,i,hi=>by simp at hi
theorem yF:∀ {vs:LV}{us:LU},aL vs us->∀ {i:Nat},i<vs.length->aF (vs.getD i .non) (us.getD i Value.none)
 |_,_,.cons h _,0,_=>h
 |_,_,.cons _ t,i+1,hi=>by
  exact yF t (by simpa using hi)
 |_,_,.nil,i,hi=>by simp at hi
theorem qA {K:Frag}{B:Hp}{vs:LV}{ds:LD}(h:IsL K B vs ds):∀(l:LN),(∀i∈l,i<ds.length)->IsL K B (l.map λi=>vs.getD i .non) (l.map λi=>ds.getD i .non)
 |[],_=>.nil
 |i::l,hl=>.cons (Ct h (hl i (mX ..))) (qA h l λj hj=>hl j (mZ _ hj))
theorem nD (h:aL vs us):∀(l:LN),(∀i∈l,i<vs.length)->aL (l.map λi=>vs.getD i .non) (l.map λi=>us.getD i Value.none)
 |[],_=>.nil
 |i::l,hl=>.cons (yF h (hl i (mX ..))) (nD h l λj hj=>hl j (mZ _ hj))
end
section
variable {X:Cx}
theorem wC {K:Frag}{B:Hp}:∀ {vs:LV}{ds:LD}{ns:LI}{its:LU},aL vs its->IsL K B vs ds->jy ds=some ns->IntsAre its ns
 |_,_,_,_,.nil,.nil,h=>by simp only[jy]at h;cases h;exact .nil
 |_,_,_,_,.cons r M,.cons i O,h=>by
  cases i<;>simp only[jy]at h<;>try (cases h;done)
  obtain⟨t,h2,h⟩:=oY h;subst h;obtain⟨u,rfl⟩:=r;exact .cons _ u (wC M O h2)
theorem eE:∀ {its:LU}{zs:LI},IntsAre its zs->aL (zs.map V.int) its
 |_,_,.nil=>.nil
 |_,_,.cons x t r=>.cons ⟨t,rr⟩ (eE r)
theorem jz {K:Frag}{N:Hp}:∀(zs:LI),IsL K N (zs.map V.int) (zs.map D.int)
 |[]=>.nil
 |z::zs=>.cons (.int z) (jz zs)
def qB (p:M.Perm l)(h:M.Pairwise (·<=·)):M=ft l:=by
 refine dS _ (λx _ y _ e=>by injection e) p (h.imp λ{a b} O=>?_);unfold He;intro z;rw[cons_lt_cons_iff]at z;rcases z with z|⟨_,z⟩
 .omega
 .exact lt_irrefl _ z
def lx (I:Inv X af σ H s)(O:aH B H)(q:Fin X.K B H (.lst ds) true Q)(hv:aL ys out.toList)(hl:IsL X.K B ys ds)(hz:ys.length<=sizeLine):
  EP X af σ Q (.ref (s.z+1)) { s with heap:=sortedAll s.heap its out }:=by
 obtain⟨e,he⟩:=sortedAll_at s.heap its out;have hp:H (s.z+1)=none:=I.hok.fresh (le_succ _);have M:=Ext.laid (o:=.lst ys) O hp;exact⟨.ref _,_,I.laid (t':=s.toks) (λb o=>sortedAll_old) (le_succ _) (show bf X.prog X.w _ _ _ (.lst ys)from ⟨hz,out.toList,e,hv,he⟩),rr,
  q _ _ _ M (.lst (fD.of au) (hl.mono M.bn)) λ_=>⟨_,_,_,rr,rr,hp,au,hl.mono M.bn⟩⟩
def Hi:bg X (.builtin "sorted") (xA X.K iO):=by
 intro af s σ H xs us Q I r h;obtain⟨B,dl,d,bb,U,i,M,q⟩:=h;cases i with
 |nil=>simp[iO]at M
 |cons i1 i2=>
  cases i2 with
  |cons _ _=>cases i1<;>simp[iO]at M
  |nil=>
   cases i1<;>try (simp[iO]at M;done)
   rename_i w vs ds h hl;obtain⟨u,rfl,m⟩:=eC r;cases m
   obtain⟨its,a,pl,hz⟩:=I.list (U.seq h);have x:vs.length=its.length:=a.length;have y:ds.length=vs.length:=hl.length.symm;simp only[iO]at M;split at M
   .rename_i ss es;split at M
    .rename_i j;cases M
     have O:=ga a hl es;have n:its.length=ss.length:=by rw[<-O.strs,vI]
     refine sorted_strs pl.isList (by simpa using O) (by omega) λout b c f g=>?_;have e:=ug f g;subst e;exact lx I U q (nq c) (qu _) (by rw[vI,(cz ss).length_eq,sizeLine_eq];omega)
    .cases M
   .split at M
    .rename_i ns es;split at M
     .rename_i j;cases M
      have O:=wC a hl es;have n:its.length=ns.length:=IntsAre.length O;refine sorted_ints pl.isList (by simpa using O) (by omega) λout b c f g=>?_;have e:=qB f g;subst e;exact lx I U q (eE c) (jz _) (by rw[vI];unfold ft;rw[(a9 _ ns).length_eq,sizeLine_eq];omega)
     .cases M
    .split at M
     .rename_i ks es;split at M
      .rename_i hh;obtain⟨j,hc,hf⟩:=hh;cases M
       have o:=fL es;have O:=mn I a (hl.mono U) es;refine yD pl.isList (by simpa using O) hc hf (by omega) λp ap k=>?_;have t:its.length=ds.length:=by omega
       rw[t]at ap k;have e:=AS es hc ap k;have v:∀i∈p.toList,i<ds.length:=λi hi=>mem_range.mp (ap.perm.mem_iff.mp hi);have l:=qA hl p.toList v;rw[e]at l;refine lx I U q (ys:=p.toList.map λi=>vs.getD i .non) ?_ l ?_
       .grind[nD]
       .rw[vI,vG,ap.size,sizeLine_eq];omega
      .cases M
     .cases M
end
end DL
namespace DL
open PySem PySem.Spec PyProof.Rows L2
section
variable {X:Cx}{e:Expr}{pos pos2 p p2:Pos}
def t8:bg X (.builtin "len") (λxs H Q=>∃S M,xs=[.ref S]/\H S=some (y4 (PySem.strKind X.prog X.w) strOf S M)/\Q (.int (M.length:Nat)) H):=by
 intro af s σ H xs us Q I r h;obtain⟨S,M,rfl,hS,q⟩:=h;obtain⟨u,rfl,U⟩:=eC r;cases U
 have a:hW (PySem.strKind X.prog X.w) strOf s.heap S M:=(I.hok S _ hS).1;obtain⟨o,es,c,t,ho,O,hd,d,hp,nd,hb,hf,_⟩:=a;have sz:es.size=M.length:=by rw[<-hp.length_eq,vI,vG]
 have b:M.length<4096:=hb;exact PySem.call_len_set ho O hd hf (by rw[sz];omega) ⟨.int (M.length:Nat),H,I.tok _,⟨_,by rw[sz]⟩,q⟩
def E3 (hc:X.calm=true)(m1:X.mg "len" = none)(m2:X.mg "set" = none)(he:JE X e f)(g1:Gl X "len")(b:Gl X "set")
  (h1:starEach [e] X.env=(false,eval e X.env)::starEach [] X.env):JE X (.Call (.Name "len" p) [.Call (.Name "set" p2) [e] [] pos2] [] pos) (f1 wz f):=by
 refine PE.to (pP t8 g1 m1 OJ (dB (mV (o7 ZK hc) b m2 ON (dB he f6 h1) (he:=h1)) f6)) λσ H Q q=>?_;obtain⟨B,ρ,d',bb,c,r,M,q⟩:=q;obtain⟨U,ex,M⟩:=oX M;refine⟨B,ρ,U.1,U.2,c,r,ex,λv j N1 O i1 k=>?_⟩;obtain⟨xd,l⟩:=U;cases i1<;>try (simp[wz]at M;done)
 rename_i m vs ds h hl;simp only[wz]at M;obtain⟨ss,d,M⟩:=oX M;split at M
 .rename_i g;cases M
  refine⟨_,_,ss,rr,O.nh.seq h,λits i=>StrsAre.keys (ga i hl d),g,λS hS=>⟨S,_,rr,au,?_⟩⟩;have a:=Ext.laid (o:=y4 (PySem.strKind X.prog X.w) strOf S (eB ss)) O.nh hS;exact(q.into (O.trans a)).one (O.trans a).nh (.int _)
 .cases M
end
section
variable {X:Cx}{a:Expr}{pos:Pos}{x:Str}{p:Pos}{d:Addr}{a8:List (Str×D)}
def E4 (cd:ma X.K X.w.params d a8):cB X (compareOp .NotIn) (λx y H Q=>∃z,x=.str z/\y=.ref d/\Q (.bl (!(a8.lookup z).isSome)) H):=by
 rintro af s σ H _ _ v u Q I O U ⟨z,rfl,rfl,q⟩;cases U
 obtain⟨t,rfl⟩:=O;obtain⟨f,b,c,hf⟩:=cd.map I;refine wpAny_notIn_of (strKind_is _ _ z t) c b ⟨.bl _,H,I.tok _,?_,q⟩;have:=hf z;cases M:a8.lookup z with
 |none=>rw[M]at this;rw[this];rfl
 |some dd=>rw[M]at this;obtain⟨_,_,e,_⟩:=this;rw[e];rfl
def E5 (h:∃d,X.mg x=some (.ref d)/\ma X.K X.w.params d a8)(ha:JE X a f)(c:Gl X x)(hd:(x == ("__debug__" : Str))=false)(hm:behindInMarks .NotIn (.Name x p)=false):JT X (.Compare a [.NotIn] [.Name x p] pos) (bx (f1 (AF a8) f)):=by
 obtain⟨d,O,cd⟩:=h;refine PT.to (BM (E4 cd) ha (p4 (v:=.ref d) c O rr hd) hm) λσ H Q q=>?_;obtain⟨B,ρ,d',bb,e,r,M,q⟩:=pY q;obtain⟨U,ex,M⟩:=oX M;refine⟨B,ρ,U.1,U.2,e,r,ex,λv g N1 b i1 i=>?_⟩;obtain⟨xd,j⟩:=U;cases i1<;>try (simp at M;done)
 rename_i z;cases M
 exact⟨z,rr,rr,(q.into b).one b.nh (.bl _)⟩
end
section
variable {prog:Program}{w:World}{A:Around}{E:QV}{s:Shared}
def AT {a:Addr}{o:Obj}{its:AV}{n:Nat}{x:Value}{e:Value->Bool}{j:Nat}{P:PySem.Fin->Shared->Prop}(ho:s.heap.get? a=some o)(hd:o.data=.seq its n)
  (he:∀y∈its,MeetsSeq.EqGives y x (e y)) (hj:j<its.size) (Ai:e its[j]=true) (M:∀m (hm:m<its.size),m<j->e its[m]=false)
  (h:P (.done (.ret (.int j s.toks))) { s with toks:=s.toks+1 }):wpAny (model prog w) A (Builtin.«tuple.index» ⟨[.ref a,x],[]⟩) P E s:=by
 show wpAny _ _ (Builtin.Tuple.tupleItemsOf _>>=_) _ _ s;refine wX (wpAny_tupleItemsOf ho hd ?_);refine wX (wY (wX (wY (wX ?_))));rw[Std.Legacy.Range.forIn_eq_forIn_range'];refine wpAny_forIn_list _
  (λaj r s'=>r.1=none/\s'=s/\∃i,i<=j/\aj=List.range' i (its.size - i))
  _ ?_ ?_ _ _ ⟨rr,rr,0,uN _,?_⟩
 .rintro k aj r s' ⟨c,rfl,i,hi,hz⟩;have d:i<its.size:=N9
  obtain⟨m,hm⟩:∃m,its.size - i=m+1:=⟨its.size - i - 1,N9⟩;rw[hm]at hz;injection hz with O f;have O:=O.symm;subst O;have b:its[i]? = some its[i]:=H9
  simp only[b];refine wX (he _ (Array.getElem_mem _) _ w _ _ _ _ ?_);by_cases U:i=j
  .subst U;rw[Ai];refine wX ?_;exact wX (wpAny_mkInt (wY (wY (wY h))))
  .rw[M i _ N9];exact wY ⟨rr,rr,i+1,N9,by grind⟩
 .grind
 .simp
end
theorem CRows.findT {K:Frag}{P:Params}(y:Str){ds:LD}:∀ {es:List DictEntry}{a8:List (Str×D)},CRows K P es a8->a8.lookup y=some (.tup ds) ->
  ∃e a its n mS,es.find? (λe=>Value.isStrOf y e.key)=some e/\e.val=.ref a/\K.lookup a=some ⟨.type "tuple",none,.seq its n,mS⟩/\iK its.toList ds=true
 |_,_,.nil,h=>by simp at h
 |_,_,.tup (x:=x) (t:=t) (a:=a) (ds:=O) hh l f tl,h=>by
  by_cases e:y=x
  .subst e;rw[List.lookup_cons_self]at h;cases h
   rw[vC]at f;exact⟨_,a,_,_,_,List.find?_cons_of_pos (by simp[Value.isStrOf]),rr,l,f.2⟩
  .rw[lookup_cons,beq_eq_false_iff_ne.mpr e]at h;have M:Value.isStrOf y (Value.str x t)=false:=by
    rw[Bool.eq_false_iff];intro z;obtain⟨t',q⟩:=Value.isStrOf_shape z;simp_all
   simp only[find?_cons,M];exact tl.findT y h
 |_,_,.flat (x:=x) (t:=t) (u:=u) (d:=d) hh f tl,h=>by
  by_cases e:y=x
  .subst e;rw[lookup_cons,beq_self_eq_true]at h;cases h;cases u<;>cases f
  .rw[lookup_cons,beq_eq_false_iff_ne.mpr e]at h;have M:Value.isStrOf y (Value.str x t)=false:=by
    rw[Bool.eq_false_iff];intro z;obtain⟨t',q⟩:=Value.isStrOf_shape z;simp_all
   simp only[find?_cons,M];exact tl.findT y h
section
variable {X:Cx}{b e:Expr}{pos:Pos}{x:Str}{p:Pos}
def XV (K:Frag):V->LV->Hp->VK->Prop:=λx xs H Q=>∃(a:Addr)(o:Obj)(its:AV)(n:Nat)(zs:LS)(y:Str),x=.ref a/\xs=[.str y]/\K.lookup a=some o/\o.cls=.type "tuple"/\o.data=.seq its n/\StrsAre its.toList zs/\zs.findIdx (· == y)<zs.length/\Q (.int (zs.findIdx (· == y):Nat)) H
noncomputable def OO (y:Str):Value->Bool
 |.str z _=>z == y
 |_=>false
theorem Cu:∀ {its:LU}{zs:LS},StrsAre its zs->∀(i:Nat)(hi:i<its.length),∃(h:i<zs.length)(t:Tok),its[i]=.str zs[i] t
 |_,_,.cons z t h,0,_=>⟨H9,t,rr⟩
 |_,_,.cons z t h,i+1,hi=>by
  obtain⟨h',t',e⟩:=Cu h i (by simpa using hi);simp_all
 |_,_,.nil,i,hi=>by simp at hi
theorem yG:∀ {its:LU}{zs:LS},StrsAre its zs->its.length=zs.length
 |_,_,.nil=>rr
 |_,_,.cons _ _ h=>by rw[vE,vE,yG h]
def Hj:LJ X "tuple.index" (XV X.K):=by
 intro af s σ H x xs v us Q I U c h;obtain⟨a,o,its,n,zs,y,rfl,rfl,d,hc,hd,hz,hk,q⟩:=h;cases U
 obtain⟨u,rfl,⟨t,rfl⟩⟩:=c.one;have ho:=I.kIn a o d;have hl:=yG hz;rw[vG]at hl;have at':∀(i:Nat)(hi:i<its.size),∃(h:i<zs.length)(t:Tok),its[i]=.str zs[i] t:=λi hi=>by
  obtain⟨h',t',e⟩:=Cu hz i (by simpa using hi);exact⟨h',t',by simpa using e⟩
 refine wpAny_call_entry PySem.F.slot_tuple_index ⟨o,ho,hc⟩ PySem.F.entry_tuple_index (AT (e:=OO y) ho hd (λz hm=>?_) N9 ?_ (λm hm O=>?_) ⟨_,rr,.int _,H,I.tok _,⟨_,rr⟩,q⟩) (PySem.F.args_tuple_index_2 _ _)
 .obtain⟨i,hi,rfl⟩:=Array.mem_iff_getElem.mp hm;obtain⟨_,t',M⟩:=at' i hi;rw[M];exact eqGives_str _ _ _ _
 .obtain⟨_,t',M⟩:=at' (zs.findIdx (· == y)) N9;rw[M];exact List.findIdx_getElem (w:=hk)
 .obtain⟨_,t',M⟩:=at' m hm;rw[M];have:=List.not_of_lt_findIdx O;simpa [OO]using this
@[simp] def ly (a8:List (Str×D)):D->D->OB
 |.str y,.str z=>match a8.lookup y with
  |some (.tup ds)=>(dL ds).bind λzs=>if zs.findIdx (· == z)<zs.length then some (.int (zs.findIdx (· == z):Nat),false)else none
  |_=>none
 |_,_=>none
def MG {a8:List (Str×D)}{f g:FE}{cm b8:Pos}(h:∃d,X.mg x=some (.ref d)/\ma X.K X.w.params d a8)(hb:JE X b f)(he:JE X e g)(C:Gl X x)(E:(x == ("__debug__" : Str))=false)(hs:lP b)
  (O:attributeBase (.Subscript (.Name x p) b pos) "index" X.env (eval (.Subscript (.Name x p) b pos) X.env)=eval (.Subscript (.Name x p) b pos) X.env)
  (G:((backTo b8 (starEach [e] X.env)).all (λx=>!x.1) && (backToKw b8 (keywordEach [] X.env)).all (λx=>x.1.isSome)
   && decide ([e].length+([]:List Keyword).length+(if([]:List Keyword).isEmpty then 0 else 1)<30))=true)
  (U:(cm.endLine == b8.line)=true) (m:starEach [e] X.env=[(false,eval e X.env)]):
  JE X (.Call (.Attribute (.Subscript (.Name x p) b pos) "index" cm) [e] [] b8) (f2 (ly a8) f g):=by
 obtain⟨d,hm,cd⟩:=h;have J:Gc X (λx y H Q=>∃z ds,x=.ref d/\y=.str z/\a8.lookup z=some (.tup ds)/\∀a its n mS,X.K.lookup a=some ⟨.type "tuple",none,.seq its n,mS⟩->iK its.toList ds=true->Q (.ref a) H):=by
  intro c i af s σ H x y v u Q I L N q hs;obtain⟨z,ds,rfl,rfl,j,q⟩:=q;cases L
  obtain⟨t,rfl⟩:=N;obtain⟨es,n,l,r,sm⟩:=cd;have o:=PySem.W.mapOf_K (prog:=X.prog) I.kIn l r.lit;obtain⟨en,a,its,n',mS,e1,e2,P,R⟩:=r.findT z j;have S:findBy Value.isStrOf es z=some (.ref a):=by
   simp_all[findBy]
  exact tail_any o.typeIs slot_dict_getitem.lookup (wpAny_getItem_of (strKind_is X.prog X.w z t) o S ⟨.ref a,H,I.tok _,rr,q a _ _ _ P R⟩) hs
 refine PE.to (xJ PySem.F.plainAttrs_tuple PySem.F.slot_tuple_index PySem.F.type_tuple_index Hj (Gd J (p4 (v:=.ref d) C hm rr E) hb hs) (dB he f6 m) O G U m rr) λσ H Q q=>?_;obtain⟨B,ρ,d',bb,T,r,M,q⟩:=q;obtain⟨V,ex,M⟩:=oX M;obtain⟨Y,Z,M⟩:=oX M;obtain⟨xd,xb⟩:=V;obtain⟨yd,yb⟩:=Y;cases xd with
 |str z=>
  cases yd with
  |str y=>
   refine⟨B,ρ,_,xb,T,r,ex,λv H1 N1 k i1 _=>?_⟩;cases i1
   simp only[ly]at M;split at M
   .rename_i ds j;obtain⟨zs,ez,M⟩:=oX M;split at M
    .rename_i hk;cases M
     refine⟨z,ds,rr,rr,j,λa its n mS l fl=>⟨.inr (.inl ⟨rr,_,l,rr,rr⟩),N1,ρ,_,yb,k.nh,r.mono k.bn,Z,λv2 H2 N2 A i2 _=>?_⟩⟩;cases i2
     obtain⟨vs,rv,iv⟩:=iL (K:=X.K) fl;exact⟨a,_,its,n,zs,y,rr,rr,l,rr,rr,ga rv (iv N2) ez,hk,(q.into (k.trans A)).one A.nh (.int _)⟩
    simp_all
   simp_all
  |_=>simp[ly]at M
 |_=>simp[ly]at M
end
open PySem.W (tabIn tabObj CodeHd kla_fn kla_obj kla_eval kla_makeFunction kla_makeFunctionHit kla_callFunE kla_codeExpr envX)
def Vh (K:Frag)(c P:Addr):Prop:=∃o vs O a M tg b U d,K.lookup c=some o/\o.cls=.type "code"/\o.data=.fields vs/\vs[11]? = some (.ref P)/\vs.getD 11 .none=.ref P/\vs.getD 18 .none=.str O a /\
 vs.getD 7 .none=.int M tg/\vs.getD 9 .none=.bool b/\vs.getD 10 .none=.int U d/\c≠P
def yH (K:Frag)(x:Str):Prop:=∃c P,tabIn K x=some (c,P)/\Vh K c P
def Hk (H:Hp)(f:Addr)(q:Str)(params:Arguments)(M:Expr)(scope:Scope)(cl:List (Str×Addr)):Prop:=
 ∃pm c O u oc u' vs t,H f=some (.frz (kla_obj "<lambda>" q params M scope cl pm c O) u)/\H c=some (.frz oc u')/\oc.data=.fields vs/\vs[1]? = some (.str q t)
def Hk.mono (h:Hk H f q params O scope cl)(e:aH H H'):Hk H' f q params O scope cl:=
 let ⟨pm,c,M,u,oc,u',vs,t,h1,h2,h3,h4⟩:=h;⟨pm,c,M,u,oc,u',vs,t,e _ _ h1,e _ _ h2,h3,h4⟩
def lam_mk {K:Frag}{x:Str}{f c P:Addr}{oc:Value}{od b:Option Addr}{mS j:Array (Option Value)}{fd:FuncData}{vs:AV}{O:Str}{d tg e:Tok}{M U:Int}{g:Bool}(k:nsIn K mainGlobals x=some (some (.ref f)))(e2:K.lookup f=some ⟨oc,od,.func fd,mS⟩)
  (l:fd.code=.ref c) (h:K.lookup c=some ⟨.type "code",b,.fields vs,j⟩) (i:vs[11]? = some (.ref P)) (m:vs.getD 11 .none=.ref P) (n:vs.getD 18 .none=.str O d) (o:vs.getD 7 .none=.int M tg) (p:vs.getD 9 .none=.bool g) (q:vs.getD 10 .none=.int U e) (a:(c == P)=false):yH K x:=
 ⟨c,P,tab_yes k e2 l h i,_,vs,O,d,M,tg,g,U,e,h,rr,rr,i,m,n,o,p,q,λz=>by rw[z]at a;simp at a⟩
def AU (l:LU)(h:TriplesOk l)(e:codeAmong U (l++[rawInt a,rawInt b,c])=some cv):codeAmong U l=some cv\/cv=c:=by
 fun_induction TriplesOk l with
 |case1=>
  simp_all[rawInt,codeAmong]
 |case2 M t b' u x aj O=>
  simp only[cons_append,codeAmong]at e |-;split<;>simp_all
 |case3 l h1 h2=>exact h.elim
section
variable {X:Cx}{af:AO}{σ:St}{H:Hp}{s:Shared}
def Hl
  (hx:x∈jr) (L:yH X.K x) (hc:∀c P,tabIn X.K x=some (c,P)->X.env.code=.ref c) (hq:X.env.qual ++ "<lambda>" = tm x) (YQ:defaultsOf params X.env=([],[])) (S:closureFor scope X.env=pure cl)
  (I:Inv X af σ H s) (tb:Tb X.K H) (k:∀f H' s',Inv X af σ H' s'->aH H H'->Hk H' f (tm x) params body scope cl->Q (.ref f) s'):
  wq X (eval (.Lambda params body scope pos) X.env) Q E s:=by
 refine kla_eval YQ ?_;rw[hq];obtain⟨c,P,T,o,vs,YR,tf,Wy,tg,Tp,YS,tt,lk,ck⟩:=L;have O:=hc c P T;have p:=tb x hx c P T;obtain⟨ps,e,y,co⟩:=I.hok P _ p;have C:CodeHd s.heap c P:=⟨o,vs,YR,tf,Wy,tg,Tp,YS,tt,I.kIn c o lk,ck⟩;have V:s.heap.Ns mainGlobals X.mg:=I.mod.glob.keeps I.bk;have j:∀b,H b=none->b≠P:=λb n z=>by rw[z,p]at n;cases n
 have A:mainGlobals≠P:=by
  obtain⟨og,_,_,W,_⟩:=I.mod.glob;exact j _ (I.bs _ _ W).2
 have hb:s.heap.BuiltinsAt X.mg P:=by
  obtain⟨bm,ob,b1,b2,b3,b4,b5,b6⟩:=I.mod.bmain;refine⟨bm,ob,b1,b2,λz=>?_,j _ (I.bs _ _ b3).2,I.bk _ _ b3,b4,b5,b6⟩;obtain⟨og,es,ep,W,dg,_⟩:=I.mod.glob;simp_all
 cases hf:codeAmong pos ps.toList with
 |some cv=>
  obtain⟨M,oc,u,ws,t,rfl,hH,hd,hv⟩:=co pos cv hf;refine kla_makeFunctionHit (mg:=X.mg) S I.ok.glob V O C e y hf hb λU h' tk hk hsz=>?_;have hn:H h'.objs.size=none:=I.hok.fresh hsz;have a:aH H (upd H h'.objs.size (.frz (kla_obj "<lambda>" (tm x) params body scope cl ((X.mg "__name__").getD .none) M U) (.own h'.objs.size))):=λb u q=>by rw[a5 (aN q hn)];exact q
  refine k _ _ _ (I.laid (t':=tk) (λb u q=>vZ _ (hk b u q)) hsz (show bf X.prog X.w _ _ _ (.frz _ (.own h'.objs.size))from ⟨vY _ rr,_,vY _ rr⟩)) a ?_;exact⟨_,M,U,_,oc,u,ws,t,au,a _ _ hH,hd,hv⟩
 |none=>
  refine kla_makeFunction (mg:=X.mg) S I.ok.glob V O C e y hf A hb λM U h' tk hx' g Y h B=>?_;obtain⟨c2,oc,ws,t,e2,Z,hd,hv⟩:=h;cases e2
  have YT:H M=none:=I.hok.fresh g;have hsz:s.z<=h'.objs.size:=vR g (le_of_lt Y);have D:H h'.objs.size=none:=I.hok.fresh hsz;have F:M≠h'.objs.size:=vS Y;let fo:Obj:=kla_obj "<lambda>" (tm x) params body scope cl ((X.mg "__name__").getD .none) M U;let l:Hp:=upd (upd H M (.frz oc (.own M))) h'.objs.size (.frz fo (.own h'.objs.size));have a:aH H l:=λb u q=>by
   show upd _ _ _ b=_;rw[a5 (aN q D),a5 (aN q YT)];exact q
  have G:l M=some (.frz oc (.own M)):=by show upd _ _ _ M=_;rw[a5 F,au]
  have keep:∀b u,b≠P->s.heap.get? b=some u->(h'.push fo).get? b=some u:=λb u n q=>vZ _ (hx' b u n q);have lt:∀b u,s.heap.get? b=some u->b≠M/\b≠h'.objs.size:=λb u q=>⟨vS (vQ (vX q) g),vS (vQ (vX q) hsz)⟩;have Wz:(h'.push fo).get? P=some (tabObj (ps++#[rawInt pos.line,rawInt pos.col,.ref M])):=vZ _ B;refine k _ l _ (I.un (t':=tk) (h':=h'.push fo) ⟨λb u q n _ _=>keep b u (j b n) q,λb u q n _ _=>⟨u.slots,keep b u (j b n) q⟩,λb u q n _=>?_,λb u q _=>?_,λb xs q=>a _ _ q,λb ob u q=>a _ _ q,λb u q=>a _ _ q⟩ λb u q=>?_) a ⟨_,M,U,_,oc,_,ws,t,au,G,hd,hv⟩
  .show upd _ _ _ b=_;rw[a5 (lt b u q).2,a5 (lt b u q).1];exact n
  .by_cases z:b=P
   .subst z;exact⟨_,Wz⟩
   .exact⟨u,keep b u z q⟩
  .by_cases z1:b=h'.objs.size
   .subst z1;have i:some (HO.frz fo (.own h'.objs.size))=some u:=by rw[<-q];exact au.symm
    cases i
    exact⟨vY _ rr,_,vY _ rr⟩
   .by_cases z2:b=M
    .subst z2;rw[G]at q;cases q;exact⟨vZ _ Z,_,vZ _ Z⟩
    .have i:H b=some u:=by
      have:l b=H b:=by show upd _ _ _ b=_;rw[a5 z1,a5 z2]
      rw[<-this];exact q
     by_cases z3:b=P
     .subst z3;rw[p]at i;cases i;refine⟨_,Wz,?_,λKR J m=>?_⟩
      .simp_all[TriplesOk_snoc]
      .rw[Array.toList_append]at m;rcases AU _ y m with m|rfl
       .obtain⟨c3,N,u3,R,t3,y1,y2,y3⟩:=co KR J m;exact⟨c3,N,u3,R,t3,y1,a _ _ y2,y3⟩
       .exact⟨M,oc,_,ws,t,rr,G,hd,hv⟩
     .refine(I.hok b u i).stay (λd v S8 r=>keep d v ?_ r) (λd r=>a _ _ r) (λd xs r=>a _ _ r) λd ob v r=>a _ _ r;simp_all<;>lia
end
section
variable {P:Program}{w:World}{K:Frag}{mg:SV}{base:Heap}
def bQ.fnL {x:Str}{st:Stmt}{N ps:LS}{k:Nat}{g:FS}{h:Heap}(F:bQ K x st)(X:K.In h)(G:h.Ns mainGlobals mg)(S:FnScope N ps (aC st))
  (O:∀(kV doc pm:Value)(an:Option Addr)(dA ct:Value)(us:LU),us.length=ps.length->bindArgs (fnOf x x (eU st) (bF st) (aC st) .none kV doc pm an dA ct) ⟨us,[]⟩=pure (ps.zip us))
  (hb:∀(f:Addr)(dA:Value)(A:Around)(outer:List PySem.Env)(s:Shared)(H:Hp)(E:XK),(∀c P,tabIn K x=some (c,P)->dA=.ref c)->dq k (A.deeper (envOfC x (aC st) s.z f dA))->xB (pf xK P w K mg base N x (aC st) f dA A outer s H E).nox (bF st) g):
  Fn P w K mg base (k+1) x (ax g ps.length (N.length - ps.length)):=by
 obtain⟨f,fd,U,a⟩:=F;have o:=U;obtain⟨oc,od,kV,doc,pm,an,dA,ct,mS,rfl,n,p⟩:=o.ex;have hc:∀c P,tabIn K x=some (c,P)->dA=.ref c:=λc P e=>by
  unfold tabIn at e;simp only[a,n]at e;split at e
  .split at e
   .split at e
    .cases e;rfl
    .cases e
   .cases e
  .cases e
 have len:∀vs H Q E,Li K (ax g ps.length (N.length - ps.length)) vs H Q E->vs.length=ps.length:=λvs H Q E h=>by
  obtain⟨B,ds,d,b,j,i,e,q⟩:=h;unfold ax at e;split at e
  .rename_i hl;rw[i.length];exact hl
  simp_all
 refine⟨f,_,ps,OC n p S len λA outer s H vs Q E r h=>⟨_,tI.nox (hb f dA A outer s H E hc r),?_⟩,mg_of X G a,U.kp,U.binds O⟩;have M:=len vs H Q E h;obtain⟨B,ds,d,b,j,i,e,q⟩:=h;unfold ax at e;rw[if_pos (by rw[<-i.length];exact M)]at e;have l:=xW (N:=N) j.1 j.2 i;rw[M]at l;split at e
 .rename_i d' b' m;cases e
  exact⟨B,H,_,_,⟨B,l⟩,m,λv H' N' t u y=>q v H' N' t u y⟩
 .rename_i ρ' m;cases e
  exact⟨B,H,_,_,⟨B,l⟩,m,λz H' ⟨N',s'⟩=>q .non H' N' s'.ext .non H9⟩
 simp_all
end
inductive jT (X:Cx)(N':List Str)(scope:Scope)(cl:List (Str×Addr)):Nat->List Nat->Prop where
 |nil {j:Nat}(h:N'.length=j):jT X N' scope cl j []
 |cons {j i:Nat}{r:List Nat}{x:Str}(h1:N'[j]? = some x) (h2:X.N[i]? = some x) (h3:X.env.kindOf x=some .cell\/X.env.kindOf x=some .free)
   (h4:scope.names.lookup x=some .free) (h5:cl.lookup x=X.env.cells.lookup x) (t:jT X N' scope cl (j+1) r):jT X N' scope cl j (i::r)
theorem jT.len:∀ {j:Nat}{cap:LN},jT X N' scope cl j cap->N'.length=j+cap.length
 |_,_,.nil h=>by rw[h];rfl
 |j,i::r,.cons _ _ _ _ _ t=>by rw[t.len,vE];lia
theorem jT.get:∀ {j:Nat}{cap:LN}{k i:Nat},jT X N' scope cl j cap->cap[k]? = some i->∃x,N'[j+k]? = some x/\X.N[i]? = some x/\(X.env.kindOf x=some .cell\/X.env.kindOf x=some .free) /\
  scope.names.lookup x=some .free/\cl.lookup x=X.env.cells.lookup x
 |_,_,_,_,.nil _,e=>by simp at e
 |j,_,0,_,.cons h1 h2 h3 h4 h5 _,e=>by simp at e;subst e;exact⟨_,h1,h2,h3,h4,h5⟩
 |j,_,k+1,i,.cons _ _ _ _ _ t,e=>by
  obtain⟨x,q,r⟩:=t.get (by simpa using e);exact⟨x,N9,r⟩
noncomputable abbrev yI (X:Cx)(N':LS)(scope:Scope)(cl:List (Str×Addr))(q:Str)(A:Around)(f c:Addr)(s:Shared)(H:Hp):Cx:=
 { X with A:=A.deeper (envX q scope s.z f (.ref c) cl),N:=N',s₀:=s,H₀:=H,env:=envX q scope s.z f (.ref c) cl,outer:=X.stack,stack:=envX q scope s.z f (.ref c) cl::X.stack,ex:=[],fn:=λ_=>false,calm:=true,pn:=[],xe:=λ_ _=>False }
structure LamSc (X:Cx)(scope:Scope)(cl:List (Str×Addr))(y:Str):Prop where
 clos:closureFor scope X.env=pure cl
 nocell:∀z∈scope.names,z.2≠.cell
 kind:scope.kind=.function
 co:scope.isCoroutine=false
 gen:scope.isGenerator=false
 par:scope.names.lookup y=some .local
 sub:∀x c,cl.lookup x=some c->X.env.cells.lookup x=some c
 has:∀x,scope.names.lookup x=some .free->∃c,cl.lookup x=some c
def Vi (h1:∀z∈scope.names,z.2≠.cell)(h2:scope.kind=.function)(h3:scope.isCoroutine=false)(M:scope.isGenerator=false)(hp:scope.names.lookup y=some .local)
  (O:(scope.names.all λz=>!(z.2 == NameKind.free) || (X.env.cells.lookup z.1).isSome)=true):LamSc X scope (dD scope.names X.env.cells []) y:=by
 have h4:∀z∈scope.names,z.2=.free->(X.env.cells.lookup z.1).isSome=true:=λz hz e=>by
  grind
 exact⟨tT _ [] h4,h1,h2,h3,M,hp,λx c e=>lV _ [] (λy d q=>by cases q) e,λx h=>by
  have:=lW _ [] (fU h) (h4 _ (fU h) rr);exact uU this⟩
section
variable {X:Cx}{af:AO}{σ:St}{H:Hp}{s:Shared}{A:Around}{N':LS}{scope:Scope}{cl:List (Str×Addr)}{q y:Str}{cap:LN}
def MH (S:LamSc X scope cl y)(t:N'[0]? = some y)(cp:jT X N' scope cl 1 cap)(I:Inv X af σ H s)(B:A.frames=some X.stack)(hh:A.handled=none)(r:aF v u)
  (C:h₁.Ns s.z (λx=>[(y,u)].reverse.lookup x)) (hk:∀b o,s.heap.get? b=some o->h₁.get? b=some o):
  Inv (yI X N' scope cl q A f c s H) [] (some v::xT 0 cap σ) H { s with heap:=h₁,toks:=tk }:=by
 have M:∀b:Addr,b∉(yI X N' scope cl q A f c s H).ex:=λb z=>absurd (show b∈([]:List Addr)from z) H9;refine⟨⟨I.ok.mod,S.kind,rr,rr,vT _,λx z d g e2=>I.ok.inj x z d (S.sub _ _ g) (S.sub _ _ e2),λx hx=>?_,(λx d e=>by cases e),λ_=>hh,Around.frames_deeper B,.inr ⟨rr,rr⟩,λb z=>absurd z (M b),I.bs,vR I.ok.bsz I.sz,λb _ _=>M b,λb z=>absurd z (M b),I.stack,I.stkFree⟩,
  rr,I.bare,Un.kept hk,⟨_,C,λi x l g e2 F=>?_⟩,λx d e=>?_,I.hok.fresh (vT _),λx d e=>I.freeC x d (S.sub _ _ e),λp hp=>absurd (show p∈([]:AO)from hp) H9,I.hok.kept hk,?_⟩
 .have hx':=hx;rcases hx' with hx'|hx'
  .exact absurd rr (S.nocell _ (fU hx'))
  .exact S.has x hx'
 .cases i with
  |zero=>
   have U:=g;rw[t]at U;cases U;have O:=by simpa using e2
   cases O
   exact⟨u,r,.inl ⟨S.par,H9⟩⟩
  |succ k=>
   have O:=by simpa using e2
   obtain⟨k',h,G,g1,a⟩:=wb O;have:k=k':=N9
   subst this;obtain⟨n,n1,n2,n3,n4,n5⟩:=cp.get g1;have:n=x:=by
    lia
   subst this;have j:σ[h]? = some (some l):=by
    cases z:σ[h]? with
    |none=>rw[z]at a;cases a
    |some w=>rw[z]at a;cases w with
     |none=>cases a
     |some w=>cases a;rfl
   obtain⟨m,_,hl⟩:=I.loc;obtain⟨u',ru,D⟩:=hl h n l n2 j (by
    rcases n3 with n3|n3
    .exact .inr (.inl n3)
    .exact .inr (.inr n3))
   refine⟨u',ru,.inr ⟨.inr n4,?_⟩⟩;rcases D with⟨l1,_⟩|⟨_,d,l2,E⟩
   .lia
   .obtain⟨ob,ho,hd⟩:=E;exact⟨d,by rw[n5];exact l2,ob,hk _ _ ho,hd⟩
 .obtain⟨w,ob,ho,hd⟩:=I.cell x d (S.sub _ _ e);exact⟨w,ob,hk _ _ ho,hd⟩
 .have:=cp.len;unfold xT;rw[this];simp;lia
def MI (S:LamSc X scope cl y)(l:N'[0]? = some y)(cp:jT X N' scope cl 1 cap)(I:Inv X af σ H s)
  (m:A.frames=some X.stack) (hh:A.handled=none) (M:A.depth<recursionLimit) (n:Hk H f q params body scope cl)
  (O:∀pm c h u,bindArgs (kla_fn "<lambda>" q params body scope cl pm (.ref c) h) ⟨[u],[]⟩=pure [(y,u)])
  (hb:∀(f c:Addr)(s:Shared)(H:Hp),JE (yI X N' scope cl q A f c s H) body fb)
  (rep:ej X.K B σ ρ) (p:aH B H) (r:aF v u) (i:Is X.K B v d) (e:fb (some (d,false)::bZ 0 cap ρ)=some (d',b')) (x:Fin X.K B H d' b' Q):
  wpAny (model X.prog X.w) A (call (.ref f) [u]) (EP X af σ Q) (λ_ _=>False) s:=by
 obtain⟨pm,c,h,P,oc,u',ws,t,hf,hc,hd,hv⟩:=n;have ho:=(I.hok f _ hf).1;have C:=(I.hok c _ hc).1;refine wpAny_call (codeAny_mono (R:=λr s'=>CR xK X.stack X.prog X.w H s Q (λ_ _ _=>False) r s') ?_ λr s' hq=>?_)
 .refine kla_callFunE M ho rr S.co S.gen rr ⟨c,oc,ws,t,rr,C,hd,hv⟩ ?_;rw[O];refine wY (wpAny_newFunctionEnv S.nocell (λz hz=>by rw[uT hz];exact S.par) (λk D a=>⟨I.nolimit.fresh _ a,?_⟩) S.kind);have U:=λb o e=>a.extBut b o (vS (vX e)) (vZ _ e);have J:=MH (f:=f) (c:=c) (q:=q) (tk:=s.toks+1) S l cp I m hh r D U;refine kla_codeExpr (wpAny_mono (hb f c s H [] _ _ H Q J ⟨B,_,d',b',p,⟨rep.tb,λj E F z=>?_⟩,e,x⟩) (λw s' hw=>?_) λ_ _ z=>z.elim)
  .cases j with
   |zero=>
    simp_all
   |succ j=>
    obtain⟨w,h1,h2⟩:=(rep.caps ).at' j E F (by simpa using z);simp_all
  .obtain⟨G,H',g,L,N⟩:=hw;exact⟨G,H',g.os,g.bare,g.base,g.hok,L,N⟩
 .cases r with
  |error e=>exact False.elim hq
  |ok fl=>
   cases fl with
   |ret w=>exact I.after hq
   |next=>exact False.elim hq
   |brk=>exact False.elim hq
   |cont=>exact False.elim hq
end
end DL
namespace DL
open PySem PySem.Spec PySem.W PyProof.Rows L2
section
variable {X:Cx}{af:AO}{σ:St}{H:Hp}{s:Shared}{h':Heap}{t':Nat}
def nE (I:Inv X ((p,o)::af) σ H s):∀x c,X.env.cells.lookup x=some c->c≠p:=λx c e z=>by
 have M:=I.pin _ (mY _ mX);obtain⟨v,ob,ho,hd⟩:=I.cell x c e;simp_all
def j0 (I:Inv X (p::af) σ H s):Inv X af σ H s:=I.pins_of λq hq=>I.pin q (mY _ (mZ _ hq))
def gb (I:Inv X ((p,o)::af) σ H s)(h0:X.s₀.z<=p)(hp:∀q∈X.pn++af,q.1≠p)(k:∀b u,b≠p->s.heap.get? b=some u->h'.get? b=some u)(O:h'.get? p=some o')(U:∀v,o'.data≠.cell v):
  Inv X ((p,o')::af) σ H { s with heap:=h',toks:=t' }:=by
 have M:=I.pin _ (mY _ mX);have J:=(j0 I).turned (t':=t') k M.2.1 M.2.2.1 (.inr h0) (nE I) hp;refine J.pins_of λq hq=>?_;rcases vP hq with rfl|hq
 .simp_all
 .exact J.pin q (mY _ hq)
def p8 (I:Inv X af σ H s)(k:∀b u,s.heap.get? b=some u->h'.get? b=some u)(hs:s.z<=p)(M:h'.get? p=some o)(O:∀v,o.data≠.cell v):Inv X ((p,o)::af) σ H { s with heap:=h',toks:=t' }:=by
 have J:=I.kept (t':=t') k;refine J.pins_of λq hq=>?_;rcases vP hq with rfl|hq
 .exact⟨M,I.hok.fresh hs,ne_of_gt (vQ I.lt hs),I.nofs hs,O⟩
 .exact J.pin q (mY _ hq)
def MJ (I:Inv X ((p,o)::af) σ H s)(h0:X.s₀.z<=p)(hp:∀q∈X.pn++af,q.1≠p)(k:∀b u,b≠p->s.heap.get? b=some u->h'.get? b=some u)(a:∃u,h'.get? p=some u)
  (new:bf X.prog X.w (upd H p ob) h' p ob):Inv X af σ (upd H p ob) { s with heap:=h',toks:=t' }:=by
 have M:=I.pin (p,o) (mY _ mX);have hn:=M.2.1;have cs:=nE I;refine(j0 I).step (g':=s.gens) (d':=s.drawn) (ch:=[p]) (λb hb=>?_) (λb u _ _ hc e _=>k b u (λz=>hc (by simp[z])) e) (λb u _ _ hc e _=>⟨u.slots,k b u (λz=>hc (by simp[z])) e⟩) (λb u hc _ n=>by simp_all[a5])
  (λb u hc e=>⟨u,k b u (λz=>hc (by simp[z])) e⟩) (λb xs e=>by rw[a5 (aN e hn)];exact e) (λb u w e=>by rw[a5 (aN e hn)];exact e) (λb q e=>by rw[a5 (aN e hn)];exact e) (λm hm=>?_) (λb u e=>?_) I.bare
 .have z:b=p:=by simpa using hb
  subst z;exact⟨.inr h0,M.2.2.1,cs,hp⟩
 .obtain⟨O,es,U,ho,r⟩:=hm;exact⟨O,es,U,k _ O (λz=>M.2.2.1 z.symm) ho,r⟩
 .by_cases z:b=p
  .simp_all[au]
  .rw[a5 z]at e;refine(I.hok b u e).stay (λc v hc q=>k c v ?_ q) (λc q=>?_) (λc xs q=>?_) λc w xs q=>?_
   .lia
   .rw[a5 (aN q hn)];exact q
   .rw[a5 (aN q hn)];exact q
   .rw[a5 (aN q hn)];exact q
end
def Cv (X:Cx)(A:Around)(σ:St)(M:Value)(B O:Hp)(kf:D->Option D):Prop:=
 ∀(af:AO)(s:Shared)(H N:Hp)(v:V)(u:Value)(d d':D),Inv X af σ H s->aH O H->aH B N->aH N H->Is X.K N v d->aF v u->kf d=some d' ->
  wpAny (model X.prog X.w) A (call M [u]) (EP X af σ λU H'=>∃N',Ext N N' H H'/\Is X.K N' U d') (λ_ _=>False) s
def JK (X:Cx)(A:Around)(e:Expr)(kf:Env->D->Option D):Prop:=∀(af:AO)(s:Shared)(σ:St)(H B:Hp)(ρ:Env)(Q:QV)(E:QV),Inv X af σ H s->aH B H->ej X.K B σ ρ ->
 (∀O M s1,Inv X af σ M s1->aH H M->Cv X A σ (.ref O) B M (kf ρ)->Q (.ref O) s1)->wq X (eval e X.env) Q E s
section
variable {X:Cx}{A:Around}
@[simp] def yJ (cap:LN)(M:FE):Env->D->Option D:=λρ d=>(M (some (d,false)::bZ 0 cap ρ)).map (·.1)
def Rq (hx:x∈jr)(L:yH X.K x)(hc:∀c P,tabIn X.K x=some (c,P)->X.env.code=.ref c)(hq:X.env.qual ++ "<lambda>" = tm x)
  (O:defaultsOf params X.env=([],[])) (S:LamSc X scope (dD scope.names X.env.cells []) y) (b:N'[0]? = some y) (cp:jT X N' scope (dD scope.names X.env.cells []) 1 cap) (g:A.frames=X.A.frames) (U:dq (k+1) A)
  (M:∀pm c h u,bindArgs (kla_fn "<lambda>" (tm x) params body scope (dD scope.names X.env.cells []) pm (.ref c) h) ⟨[u],[]⟩=pure [(y,u)])
  (hb:∀(f c:Addr)(s:Shared)(H:Hp),dq k (yI X N' scope (dD scope.names X.env.cells []) (tm x) A f c s H).A->JE (yI X N' scope (dD scope.names X.env.cells []) (tm x) A f c s H) body fb):JK X A (.Lambda params body scope pos) (yJ cap fb):=by
 intro af s σ H B ρ Q E I i rep j;refine Hl hx L hc hq O S.clos I (rep.tb.mono i) λf l s1 m n o=>j f l s1 m n ?_;intro w s' H' N v u d d' a m1 m2 p iv r e;obtain⟨⟨d2,b2⟩,q,e2⟩:=oY e;cases e2
 exact MI S b cp a (g.trans a.ok.frames) U.hd U.depth (o.mono m1) M (λf c s H=>hb f c s H (U.deeper _)) (rep.mono m2) p r iv q λz H2 N2 t i2 _=>⟨N2,t,i2⟩
@[simp] noncomputable def E6 (g:LD->OB):Env->D->Option D:=λ_ d=>(g [d]).map (·.1)
def OP (F:Fn X.prog X.w X.K X.mg X.base k x g)(f:dq k A)(h:A.frames=X.A.frames)(i:Gl X x)(O:(x == ("__debug__" : Str))=false):JK X A (.Name x p) (E6 g):=by
 intro af s σ H B ρ Q E I o rep j;obtain⟨ad,fd,ps,b,hm,hk,hb⟩:=F.ex;refine vh I i hm ?_ O;refine j ad H s I (.refl H) ?_;intro U s' H' N v u d d' a m1 m2 l iv r e;obtain⟨⟨d2,b2⟩,m,e2⟩:=oY e;cases e2
 have sp:Li _ g _ H' (λc H2=>∃N',Ext N N' H' H2/\Is _ N' c d2) (λ_ _ _=>False):=⟨N,[d],d2,b2,⟨l,rep.tb.mono m2⟩,.cons iv .nil,m,λc H2 N2 n i2 _=>⟨N2,n,i2⟩⟩;have hl:[u].length=ps.length:=by have:=b.len _ _ _ _ sp;simp_all
 have M:=a.env0;have bb:=hb s' [u] a.kIn (by simpa using hl);refine wpAny_call (codeAny_mono (b.run A _ s' H' _ _ _ _ _ f ⟨h.trans M.frames,M.mod,M.bs,M.bsz,M.funs,M.frf,M.hok,M.bare⟩ bb (.cons r .nil) sp) λr s' hq=>?_);cases r with
 |error e=>exact False.elim hq
 |ok fl=>
  cases fl with
  |ret w=>exact a.after hq
  |next=>exact False.elim hq
  |brk=>exact False.elim hq
  |cont=>exact False.elim hq
end
noncomputable def j4 (f:D->Option D):LD->Option LD
 |[]=>some []
 |d::ds=>(f d).bind λx=>(j4 f ds).map (x :: ·)
theorem mo:∀ {ds ks:LD},j4 f ds=some ks->ks.length=ds.length
 |[],_,h=>by simp_all[j4]
 |d::ds,_,h=>by
  obtain⟨a,h1,h⟩:=oX h;obtain⟨r,h2,h⟩:=oY h;subst h;simp[mo h2]
theorem qC:∀ {ds ks:LD},j4 f ds=some ks->∀ {i:Nat}{d:D},ds[i]? = some d->∃k,ks[i]? = some k/\f d=some k
 |[],_,h,i,d,e=>by simp at e
 |d::ds,_,h,0,e,q=>by
  obtain⟨a,h1,h⟩:=oX h;obtain⟨r,h2,h⟩:=oY h;grind
 |d::ds,_,h,i+1,e,q=>by
  obtain⟨a,h1,h⟩:=oX h;obtain⟨r,h2,h⟩:=oY h;subst h;obtain⟨k,M,O⟩:=qC h2 (by simpa using q);simp_all
structure KK (X:Cx)(A:Around)(kd:List D->Option (List (List At)))(ok:List (List At)->Bool):Prop where
 len:∀ {ds:List D}{ks:List (List At)},kd ds=some ks->ks.length=ds.length
 ask:∀ {af:List (Addr×Obj)}{σ:St}{H:Hp}{s:Shared}(_:Inv X af σ H s) {ys:List V}{ds:List D}{ks:List (List At)}{its:List Value},aL ys its->IsL X.K H ys ds->kd ds=some ks->ok ks=true->cy ks=true ->
  (0<ks.length->∀ {E:Value->Shared->Prop}{Q:SortKind->Shared->Prop},Q (tuples' true) s->wpAny (model X.prog X.w) A (keyKind' its.toArray) Q E s) /\
  ∀(i j:Nat)(C:Bool->Shared->Prop)(s1:Shared),i<ks.length->j<ks.length->s1=s->(∀s',s'=s->C (qw (Al ks) i j) s')->kas_ask X.prog X.w A (tuples' true) its i j C s1
def Rr:KK X A du cC:=⟨fL,λI _ _ _ _ r i e hf hc=>have hp:=mn I r i e;⟨λhn _ _ q=>yC hp hf hn q,Cs hc hp⟩⟩
section
variable {X:Cx}{af:AO}{σ:St}{s:Shared}
theorem uj (r:aF x u):∀ {vs:LV}{us:LU},aL vs us->aL (vs++[x]) (us++[u])
 |_,_,.nil=>.cons r .nil
 |_,_,.cons h t=>.cons h (uj r t)
def c6:∀v,(Obj.mk c od (.seq its n) sl).data≠.cell v:=λv z=>by cases z
def AW
  (I:Inv X ((a,seqObj "list" its.toArray n)::af) σ H s) (h0:X.s₀.z<=a) (hp:∀q∈X.pn++af,q.1≠a) (Ls:Cv X A σ qv B H kf) (t:aL vs its) (iv:IsL X.K B vs ds) (sB:aH B H)
  (M:KK X A kd ok) (W:j4 kf ds=some jj) (ek:kd jj=some ks) (hc:cy ks=true) (hf:ok ks=true) (Ao:its.length<64)
  (h:∀(p:Array Nat)(s':Shared)(H' N:Hp),mP its.length p->Up (Al ks) p its.length->Inv X af σ (upd H' a (.lst (p.toList.map λi=>vs.getD i .non))) s'->Ext B N H H'->H' a=none->P (.done (.ret .none)) s'):
  wpAny (model X.prog X.w) A (ksk_tree a qv false) P E s:=by
 have o:=I.pin (a,seqObj "list" its.toArray n) (mY _ mX)
 have FH:vs.length=its.length:=t.length
 have S3:ds.length=vs.length:=iv.length.symm
 have hkd:jj.length=ds.length:=mo W
 have hks:ks.length=jj.length:=M.len ek
 have hz:its.length<=sizeLine:=by rw[sizeLine_eq];lia
 have hna:H a=none:=o.2.1
 obtain⟨U,Y⟩:∃U,(s.heap.update a (Obj.mapSeq λ_=>(#[]:AV))).get? a=some (seqObj "list" #[] U):=⟨_,get?_update_seq o.1 λ_=>#[]⟩
 have u1:=vW s.heap a (Obj.mapSeq λ_=>(#[]:AV))
 have I1:=gb (t':=s.toks) I h0 hp (λb u n q=>(u1.2 b n).trans q) Y c6
 let h2:Heap:=(s.heap.update a (Obj.mapSeq λ_=>(#[]:AV))).push (seqObj "tuple" its.toArray 0)
 have x:Inv X ((a,seqObj "list" #[] U)::af) σ H { s with heap:=h2 }:=I1.kept (t':=s.toks) λb u q=>vZ _ q
 let kS:Addr:=h2.objs.size
 have I3:Inv X ((kS,seqObj "list" #[] 0)::(a,seqObj "list" #[] U)::af) σ H { s with heap:=h2.push (seqObj "list" #[] 0) }:=p8 (s:={ s with heap:=h2 }) (t':=s.toks) x (λb u q=>vZ _ q) (vT _) (vY _ rr) c6
 have k0:X.s₀.z<=kS:=x.sz
 have kp:∀q∈X.pn++((a,seqObj "list" #[] U)::af),q.1≠kS:=λq hq=>vS (vX (x.pin q hq).1)
 unfold ksk_tree
 refine wX (listItems_at o.1 rr ?_)
 refine wX (listUpdate_at o.1 rr ?_ (by simpa using hz) (uN _))
 refine wX (seqEpoch_at Y rr ?_)
 refine wX (wpAny_newTuple ?_ (by simp_all))
 refine wX (wpAny_newList ?_ (uN _))
 refine wpAny_holding ?_
 show wpAny (model X.prog X.w) A (ksk_rest a qv false its.toArray U (.ref kS)) P E { s with heap:=h2.push (seqObj "list" #[] 0) }
 unfold ksk_rest
 refine wX (wpAny_rule ?_)
 rw[List.forIn_toArray]
 refine wX (ksk_fold (λi s'=>∃(H' N:Hp)(kA:AV)(e:Nat)(a8:LV),Inv X ((kS,seqObj "list" kA e)::(a,seqObj "list" #[] U)::af) σ H' s'/\Ext B N H H'/\aL a8 kA.toList/\IsL X.K N a8 (jj.take i)) its 0 _
  ⟨H,B,#[],0,[],I3,.refl sB,.nil,by simpa using IsL.nil⟩ ?step ?done)
 case step=>
  rintro j u s' hu ⟨H',N,kA,e,a8,J,c,rk,ik⟩
  simp only[Nat.zero_add]at ik |-
  have hj:j<its.length:=(vV hu).1
  obtain⟨d,hd⟩:∃d,ds[j]? = some d:=⟨_,vU N9⟩
  obtain⟨v,hv,W1⟩:=iv.get hd
  obtain⟨kd,Xf,YV⟩:=qC W hd
  obtain⟨u',Z,ru⟩:=t.get hv
  rw[hu]at Z;cases Z
  have kl:kA.size=j:=by
   have z1:=rk.length
   have z2:=ik.length
   simp_all<;>lia
  refine wX (wpAny_attempt (wpAny_mono (Ls _ s' H' N v u d kd J c.hh c.bn c.nh (W1.mono c.bn) ru YV) (λw y hw=>?_) λ_ _ hF=>hF.elim))
  obtain⟨v',D,J',rv',N',x2,i2⟩:=hw
  have f:=J'.pin (kS,seqObj "list" kA e) (mY _ mX)
  obtain⟨c2,F6⟩:∃c2,(y.heap.update kS (Obj.mapSeq (·.push w))).get? kS=some (seqObj "list" (kA.push w) c2):=⟨_,get?_update_seq f.1 (·.push w)⟩
  have u2:=vW y.heap kS (Obj.mapSeq (·.push w))
  refine wX (listUpdate_at f.1 rr ?_ (by rw[sizeLine_eq];lia) (vR (le_of_eq (Array.size_push ..)) (by rw[sizeLine_eq];lia)))
  refine wY ⟨rr,D,N',kA.push w,c2,a8++[v'],gb (t':=y.toks) J' k0 kp (λb q n z=>(u2.2 b n).trans z) F6 c6,c.trans x2,?_,?_⟩
  .simp_all[uj]
  .rw[take_add_one,Xf];exact(ik.mono x2.bn).append (.cons i2 .nil)
 case done=>
  rintro s' ⟨H',N,kA,e,a8,J,c,rk,ik⟩
  have g:IsL X.K N a8 jj:=by
   grind
  have f:=J.pin (kS,seqObj "list" kA e) (mY _ mX)
  have F:=J.pin (a,seqObj "list" #[] U) (mY _ (mZ _ mX))
  have Yt:H' a=none:=F.2.1
  have kz:kA.toList.length=its.length:=by rw[<-rk.length,g.length];lia
  have k:kA.size=its.length:=by simp_all
  refine wX (listItems_at f.1 rr ?_)
  have l:=M.ask J rk (g.mono c.nh) ek hf hc
  -- the end of the sort,for a permutation p
  have Oy:∀(st:SortSt)(p:Array Nat),arrOf st=p.map (kas_item (kA.toList.toArray.zip its.toArray))->failedOf st=none->mP its.length p->Up (Al ks) p its.length ->
    wpAny (model X.prog X.w) A (ksk_tail a false U (.ref kS) st) P E s':=λst p ea ef ap up=>by
   have eo:(arrOf st).map (·.2)=List.toArray (p.toList.map λi=>its.getD i Value.none):=kat_snds kz ea
   have An:∀i∈p.toList,i<vs.length:=λi hi=>by
    have:=mem_range.mp (ap.perm.mem_iff.mp hi)
    simp_all
   obtain⟨c3,L⟩:∃c3,(s'.heap.update kS (Obj.mapSeq λ_=>(#[]:AV))).get? kS=some (seqObj "list" #[] c3):=⟨_,get?_update_seq f.1 λ_=>#[]⟩
   have u3:=vW s'.heap kS (Obj.mapSeq λ_=>(#[]:AV))
   have J3:=j0 (gb (t':=s'.toks) J k0 kp (λb q n z=>(u3.2 b n).trans z) L c6)
   have R:=J3.pin (a,seqObj "list" #[] U) (mY _ mX)
   obtain⟨S,m⟩:∃S,((s'.heap.update kS (Obj.mapSeq λ_=>(#[]:AV))).update a (Obj.mapSeq λ_=>(arrOf st).map (·.2))).get? a=some (seqObj "list" ((arrOf st).map (·.2)) S):=⟨_,get?_update_seq R.1 λ_=>(arrOf st).map (·.2)⟩
   have u4:=vW (s'.heap.update kS (Obj.mapSeq λ_=>(#[]:AV))) a (Obj.mapSeq λ_=>(arrOf st).map (·.2))
   have so:((arrOf st).map (·.2)).size=its.length:=by rw[eo];simp only[vH,vI,vG,ap.size]
   unfold ksk_tail
   try dsimp only
   refine wX (listUpdate_at f.1 rr ?_ (by rw[k,sizeLine_eq];lia) (uN _))
   refine wX (wpAny_letGo ?_)
   refine wX (seqEpoch_at R.1 rr ?_)
   refine wX (listUpdate_at R.1 rr ?_ (uN _) N9)
   rw[ef]
   simp only[bne_self_eq_false,uV,if_false]
   refine wY (h p _ H' N ap up (MJ (s:={ s' with heap:=s'.heap.update kS (Obj.mapSeq λ_=>(#[]:AV)) }) (t':=s'.toks) J3 h0 hp (λb q n z=>(u4.2 b n).trans z) ⟨_,m⟩ ?_) c Yt)
   refine⟨by rw[vI,vG,ap.size];exact hz,p.toList.map λi=>its.getD i Value.none,S,nD t p.toList An,?_⟩
   rw[<-eo];exact m
  unfold ksk_end
  try dsimp only
  simp only[uV,if_false]
  have T:kA=kA.toList.toArray:=H9
  by_cases O:its.toArray.size<2
  .rw[if_pos O,if_pos O]
   refine wX (wY ?_)
   rw[StateT.run_pure]
   refine wX (wY ?_)
   have To:its.length<2:=by simpa using O
   refine Oy _ (List.toArray (List.range its.length)) ?_ rr ⟨H9,H9⟩ ?_
   .show kA.zip its.toArray=_
    have:=kas_range (kA.toList.toArray.zip its.toArray)
    rw[show(kA.toList.toArray.zip its.toArray).size=its.length by simp[k]]at this
    rw[this]
   .intro i j hij hj
    grind
  .rw[if_neg O,if_neg O]
   have YX:2<=its.length:=by simp at O;lia
   rw[T]
   refine wX (l.1 N9 ?_)
   obtain⟨p,r1,r2,r3⟩:=yA (n:=its.length) (rk:=Al ks) N9
   refine wX (wpAny_mono (kat_run (E:=E) (ks:=kA.toList) (vs:=its) (κ:=tuples' true) (s:=s') (Q:=λV s2=>s2=s'/\arrOf V=p.map (kas_item (kA.toList.toArray.zip its.toArray))/\failedOf V=none)
    (G:=λp' s2=>p'=p/\s2=s') kz YX Ao (λp' V s2 _ e2 e3 e4=>by
     lia) (Run.wp (λs2=>s2=s') (λi j C s2 hi hj e hC=>l.2 i j C s2 N9 N9 e hC) r1 rr λs2 e=>⟨rr,e⟩)) (λr s2 hr=>?_) λ_ _ z=>z)
   grind
end
theorem yK {α M:Type}{f:α->M}:∀ {l:List α},(l.map f).Nodup->l.Nodup
 |[],_=>nodup_nil
 |a::l,h=>by
  rw[uY,nodup_cons]at h;exact nodup_cons.mpr ⟨λz=>h.1 (uS ⟨a,z,rr⟩),yK h.2⟩
def ie (ks:List (List At))(ds:LD):LD:=(cL (λp:List At×D=>bP p.1) (ks.zip ds)).map (·.2)
def Hm {α U:Type}(d:α)(e:U):∀ {O:List α}{M:List U},O.length=M.length->(List.range M.length).map (λi=>(O.getD i d,M.getD i e))=O.zip M:=λ{O M} h=>by
 apply ext_getElem?;intro i;by_cases hi:i<M.length
 .simp_all
 .simp[hi,h]
theorem ML {α U:Type}{M:List α}{O:List U}(nd:M.Nodup){a:α}{b c:U}(h1:(a,b)∈M.zip O)(h2:(a,c)∈M.zip O):b=c:=by
 obtain⟨i,hi⟩:=mem_iff_getElem?.mp h1;obtain⟨j,hj⟩:=mem_iff_getElem?.mp h2;grind[List.getElem_inj]
def AX {ds:LD}{ks:List (List At)}{p:Array Nat}(hl:ks.length=ds.length)(hc:cy ks=true)(nd:ks.Nodup)(ap:mP ds.length p)(O:Up (Al ks) p ds.length):p.toList.map (λi=>ds.getD i .non)=ie ks ds:=by
 unfold ie;have e:p.toList.map (λi=>(ks.getD i [],ds.getD i .non))=cL (λp:List At×D=>bP p.1) (ks.zip ds):=by
  apply dS
  .intro x hx y hy e;have mx:=(of_mem_zip hx).1;have g:=(of_mem_zip hy).1;grind[kg,ML]
  .have:=ap.perm.map (λi=>(ks.getD i [],ds.getD i D.non));rw[Hm [] D.non hl]at this;exact this
  .rw[List.pairwise_iff_getElem];intro i j hi hj M;have hsz:=ap.size;have U:i<p.size:=by simpa using hi
   have a:j<p.size:=by simpa using hj
   have:=O i j (le_of_lt M) N9;unfold bK Al at this;have b:p.getD i 0=p[i]:=by simp_all
   have c:p.getD j 0=p[j]:=by simp_all
   have h:=ap.lt (k:=j) N9;have d:ks.getD (p.getD j 0) []∈ks:=by
    simp_all
   have f:¬bP (ks.getD (p.getD j 0) [])<bP (ks.getD (p.getD i 0) []):=λz=>by
    have:=wA (cs:=ks.map bP) (uS ⟨_,d,rr⟩) z;lia
   simp only[List.getElem_map,Array.getElem_toList];unfold He;rw[<-b,<-c];exact f
 rw[<-e,uP];rfl
@[simp] def wD (kd:LD->Option (List (List At)))(ok:List (List At)->Bool)(f:FE)(kf:Env->D->Option D):FE:=λρ=>(f ρ).bind λx=>match x.1 with
 |.lst ds=>(j4 (kf ρ) ds).bind λM=>(kd M).bind λks=>if ks.length<64/\cy ks=true/\ok ks=true/\(ks.map bP).Nodup then some (.lst (ie ks ds),true)else none
 |_=>none
@[simp] abbrev wE:FE->(Env->D->Option D)->FE:=wD du cC
section
variable {X:Cx}{e ke:Expr}{p pos kp:Pos}
def OQ {kd:LD->Option (List (List At))}{ok:List (List At)->Bool}(M:KK X X.A.in1.in1 kd ok){f:FE}{kf:Env->D->Option D}(hm:X.mg "sorted" = none)(he:JE X e f)(hk:JK X X.A.in1.in1 ke kf)(G:Gl X "sorted")
  (L:starEach [e] X.env=[(false,eval e X.env)]) (P:backTo pos (starEach [e] X.env)=(false,eval e X.env)::backTo pos (starEach [] X.env)) (U:(backTo pos (starEach [e] X.env)).any (·.1)=false)
  (R:(backToKw pos (keywordEach [⟨some "key",ke,kp⟩] X.env)).all (·.1.isSome)=true) (S:(backToKw pos (keywordEach [⟨some "key",ke,kp⟩] X.env)).any (·.1.isNone)=false)
  (T:(backToKw pos (keywordEach [⟨some "key",ke,kp⟩] X.env)).filterMap (·.1)=[("key" : Str)]):
  JE X (.Call (.Name "sorted" p) [e] [⟨some "key",ke,kp⟩] pos) (wD kd ok f kf):=by
 intro af s σ H Q I h;obtain⟨B,ρ,d,b,V,rep,O,q⟩:=h;obtain⟨⟨xd,xb⟩,ex,O⟩:=oX O;cases xd<;>try (cases O;done)
 rename_i ds;obtain⟨t,x,O⟩:=oX O;obtain⟨ks,ek,O⟩:=oX O;split at O
 .rename_i hh;obtain⟨Ao,hc,hf,nd⟩:=hh;cases O
  refine wpAny_Call_Name_kw (fz I G hm (u:=.builtin "sorted") rr ?_);refine callWith_kw (bI ((dB he f6 L) pos af s σ H (λvs g=>∃v N,vs=[v]/\Ext B N H g/\Is X.K N v (.lst ds)) I ⟨B,ρ,_,_,V,rep,ex,λv g N a i1 _=>⟨v,N,rr,a,i1⟩⟩) λus s1 W=>?_) P U R S;obtain⟨Y,g,Z,r1,v,N,rfl,a,i1⟩:=W;obtain⟨u,rfl,ru⟩:=eC r1;refine kws_cons (hk af s1 σ g N ρ _ _ Z a.nh (rep.mono a.bn) λk H2 s2 j m2 Ls=>kws_nil ?_);rw[T];show wpAny _ _ (call (.builtin "sorted") [u] [(("key" : Str),.ref k)]) _ _ _;cases i1
  rename_i l vs hq n;cases ru
  have y:aH N H2:=a.nh.trans m2;obtain⟨its,z,pl,hz⟩:=j.list (y.seq hq);have FH:vs.length=its.length:=z.length;have S3:ds.length=vs.length:=n.length.symm;have hkd:t.length=ds.length:=mo x;have hks:ks.length=t.length:=M.len ek;have Zc:its.length<64:=N9
  refine call_function_entry_kw kind_sorted plain_sorted entry_sorted (ksk_s1 _ _) ?_;unfold Builtin.«sorted»;refine wX (m:=checkCount "sorted" 1 1 _) (wY (wX (collect_list pl.isList (wX (wpAny_newList ?_ (by rw[sizeLine_eq];lia))) (by rw[sizeLine_eq];lia))));let h1:Heap:=(s2.heap.push (seqObj "list" #[] 0)).update s2.z (Obj.mapSeq (· ++ its.toArray));have hsz:h1.objs.size=s2.z+1:=by grind[Heap.size_update,size_push']
  have W3:∀b o,s2.heap.get? b=some o->h1.get? b=some o:=λb o q=>(Heap.get?_update_ne _ _ _ _ (vS (vX q))).trans (vZ _ q);have C:Inv X ((h1.objs.size,seqObj "list" its.toArray 0)::af) σ H2 { s2 with heap:=h1.push (seqObj "list" its.toArray 0) } :=
   p8 (t':=s2.toks) j (λb u q=>vZ _ (W3 b u q)) (by rw[hsz];exact le_succ _) (vY _ rr) c6
  have p3:=C.pin (h1.objs.size,seqObj "list" its.toArray 0) (mY _ mX);show wpAny (model X.prog X.w) X.A.in1 (holding [.ref h1.objs.size] (call (.builtin "list.sort") [.ref h1.objs.size] [(("key" : Str),.ref k)])>>=_) _ _ { s2 with heap:=h1.push (seqObj "list" its.toArray 0) };refine wX (wpAny_holding (wpAny_call_entry_kw slot_list_sort ⟨_,p3.1,rr⟩ entry_list_sort ?_ (ksk_l1 _ _)));show wpAny (model X.prog X.w) X.A.in1.in1 (Builtin.«list.sort» ⟨[.ref h1.objs.size],[(Str.ofString "key",.ref k)]⟩) _ _ _;rw[ksk_t1];refine AW C (vR j.sz (by rw[hsz];exact le_succ _)) (λq hq=>by rw[hsz];exact vS (lt_succ_of_lt (vX (j.pin q hq).1))) Ls z n y M x ek hc hf Zc λpm s' H' N' ap E J c hn=>⟨_,rr,wY ⟨_,rr,?_⟩⟩;have U:its.length=ds.length:=N9
  rw[U]at ap E;have er:=AX N9 hc (yK nd) ap E;have An:∀i∈pm.toList,i<ds.length:=λi hi=>mem_range.mp (ap.perm.mem_iff.mp hi);have r:=qA (n.mono c.bn) pm.toList An;rw[er]at r;have F:Ext B N' H H':=(a.trans (.grow a.nh m2)).trans c;have hN:N' h1.objs.size=none:=c.nh.free hn;have x5:=F.trans (Ext.laid (o:=.lst (pm.toList.map λi=>vs.getD i .non)) c.nh hn);exact⟨.ref h1.objs.size,_,J,rr,q _ _ _ x5 (.lst (fD.of au) (r.mono (Ext.laid (o:=.lst (pm.toList.map λi=>vs.getD i .non)) c.nh hn).bn)) λ_=>⟨_,_,_,rr,rr,F.hh.free hn,au,r.mono (Ext.laid (o:=.lst (pm.toList.map λi=>vs.getD i .non)) c.nh hn).bn⟩⟩
 .cases O
end
noncomputable def cmP {f:String->CmpOp->Builtin}(_:f "__lt__" .Lt=Builtin.«tuple.__lt__»):=f
def ZL:String->CmpOp->Builtin:=cmP rr
section
variable {prog:Program}{w:World}{A:Around}{E:QV}{s:Shared}{op:CmpOp}
def dP.type (h:dP s.heap xs v):s.TypeIs v "tuple":=by
 obtain⟨a,o,its,n,rfl,ho,hc,_⟩:=h;exact⟨o,ho,hc⟩
inductive GeW (prog:Program)(w:World)(A:Around)(s:Shared)(op:CmpOp)(dI r:Bool):List (Value×Value)->Prop
 |nil (h:dI=r):GeW prog w A s op dI r []
 |eq {u v:Value}{l:List (Value×Value)}(h:SeqAt.EqAt A s u v true) (t:GeW prog w A s op dI r l):GeW prog w A s op dI r ((u,v)::l)
 |ne {u v:Value}{l:List (Value×Value)}(h:SeqAt.EqAt A s u v false) (t:∀(Q E:Value->Shared->Prop),Q (.bool r) s->wpAny (model prog w) A (richCompare op u v) Q E s):GeW prog w A s op dI r ((u,v)::l)
def MN {nm:String}(O:s.TypeIs (.ref b) "tuple")(U:s.heap.get? a=some oa)(c:oa.data=.seq its na)(d:s.heap.get? b=some ob)(g:ob.data=.seq DG nb)
  (W:GeW prog w A s op dI r (its.toList.zip DG.toList)) (hz:Builtin.Tuple.tupleCompareSizes op its.size DG.size=.bool dI) (e:op=.Lt\/op=.Gt\/op=.GtE) (q:P (.done (.ret (.bool r))) s):wpAny (model prog w) A (ZL nm op ⟨[.ref a,.ref b],[]⟩) P E s:=by
 show wpAny _ _ (isInstance _ _>>=_) _ _ s;refine wX (wpAny_isInstance O isSubtype_tuple_tuple ?_);refine wX (wpAny_tupleItemsOf U c ?_);refine wX (wpAny_tupleItemsOf d g ?_);refine wX ?_;refine wpAny_forIn_list _ (λaj z s'=>z.1=none/\s'=s/\GeW _ w A s op _ r aj) _ ?_ ?_ _ _ ⟨rr,rr,W⟩
 .rintro⟨u,v⟩ aj z s' ⟨hz,rfl,W⟩;cases W with
  |eq h t=>
   refine wX (h _ _ _ _ ?_);simp_all[wY]
  |ne h t=>
   refine wX (h _ _ _ _ ?_);have t:=t (λv M=>v=.bool r/\M=s') E ⟨rr,rr⟩;rcases e with rfl|rfl|rfl<;>exact wX (wpAny_rule (wX (wpAny_mono t (λv M hv=>by obtain⟨rfl,rfl⟩:=hv;exact wX (wY (wY (wY q)))) λ_ _ z=>z)))
 .rintro⟨i,j⟩ s' ⟨f,rfl,W⟩;subst f;refine wY ?_;cases W with
  |nil h=>
   simp_all
structure CmR (prog:Program)(w:World)(A:Around)(s:Shared)(op:CmpOp)(R:List At->List At->Bool->Prop)(fl:Nat->Nat->Bool):Prop where
 ei:∀ {a xs ys r},R (.i a::xs) (.i a::ys) r->R xs ys r
 es:∀ {a xs ys r},R (.s a::xs) (.s a::ys) r->R xs ys r
 ni:∀ {a c xs ys r},a≠c->R (.i a::xs) (.i c::ys) r->∀t u (Q E:Value->Shared->Prop),Q (.bool r) s->wpAny (model prog w) A (richCompare op (.int a t) (.int c u)) Q E s
 ns:∀ {a c xs ys r},a≠c->R (.s a::xs) (.s c::ys) r->∀t u (Q E:Value->Shared->Prop),Q (.bool r) s->wpAny (model prog w) A (richCompare op (.str a t) (.str c u)) Q E s
 mx:∀ {a c xs ys r},¬R (.i a::xs) (.s c::ys) r/\¬R (.s c::xs) (.i a::ys) r
 en:∀ {xs r},(R [] xs r->fl 0 xs.length=r)/\(R xs [] r->fl xs.length 0=r)
 fs:∀ {m n},fl (m+1) (n+1)=fl m n
def Hn (C:CmR prog w A s op R fl)(xs ys:List At)(its M:LU)(U:Paired Ak xs its)(b:Paired Ak ys M)(h:R xs ys r):GeW prog w A s op (fl xs.length ys.length) r (its.zip M):=by
 induction U generalizing ys M with
 |nil=>exact .nil (C.en.1 h)
 |@cons x v xs its U f d=>
  cases b with
  |nil=>exact .nil (C.en.2 h)
  |@cons y u ys M b O=>
   cases x with
   |i a=>
    cases y with
    |s _=>exact absurd h C.mx.1
    |i c=>
     obtain⟨t,rfl⟩:=U;obtain⟨u,rfl⟩:=b;have he:=SeqAt.EqAt.int_int (A:=A) (s:=s) a t c u;rw[vE,vE,C.fs];by_cases e:a=c
     .subst e;rw[show(a == a)=true by simp]at he;exact .eq he (d ys M O (C.ei h))
     .rw[show(a == c)=false by simp[e]]at he;exact .ne he (C.ni e h t u)
   |s a=>
    cases y with
    |i _=>exact absurd h C.mx.2
    |s c=>
     obtain⟨t,rfl⟩:=U;obtain⟨u,rfl⟩:=b;have he:=SeqAt.EqAt.str_str (A:=A) (s:=s) a t c u;rw[vE,vE,C.fs];by_cases e:a=c
     .subst e;rw[show(a == a)=true by simp]at he;exact .eq he (d ys M O (C.es h))
     .rw[show(a == c)=false by simp[e]]at he;exact .ne he (C.ns e h t u)
def Vj:CmR prog w A s .Lt (λxs ys r=>aU xs ys=some r) (λm n=>decide (m<n)) where
 ei h:=by rwa [aU,if_pos rr]at h
 es h:=by rwa [aU,if_pos rr]at h
 ni e h _ _ _ _ q:=by rw[aU,if_neg e]at h;cases h;exact PyProof.Rows.lt_int q
 ns e h _ _ _ _ q:=by rw[aU,if_neg e]at h;cases h;exact PySem.P.lt_str q
 mx:=by simp[aU]
 en:=λ{xs}=>by cases xs<;>simp[aU]
 fs:=H9
def Vk:CmR prog w A s .Gt (λxs ys r=>aU ys xs=some r) (λm n=>decide (n<m)) where
 ei h:=by rwa [aU,if_pos rr]at h
 es h:=by rwa [aU,if_pos rr]at h
 ni e h _ _ _ _ q:=by rw[aU,if_neg (Ne.symm e)]at h;cases h;exact PyProof.Rows.gt_int q
 ns e h _ _ _ _ q:=by rw[aU,if_neg (Ne.symm e)]at h;cases h;exact PySem.P.gt_str q
 mx:=by simp[aU]
 en:=λ{xs}=>by cases xs<;>simp[aU]
 fs:=H9
def Ho (hx:dP s.heap xs (.ref a)):∃o its n,s.heap.get? a=some o/\o.data=.seq its n/\Paired Ak xs its.toList/\xs.length=its.size:=by
 obtain⟨M,o,its,n,e,ho,hc,hd,p⟩:=hx;cases e
 exact⟨o,its,n,ho,hd,p,by exact dF p⟩
def OR {nm:String}(C:CmR prog w A s op R fl)(hz:∀m n,Builtin.Tuple.tupleCompareSizes op m n=.bool (fl m n))(M:op=.Lt\/op=.Gt\/op=.GtE)(hx:dP s.heap xs (.ref a))(hy:dP s.heap ys (.ref b))(h:R xs ys r)(q:P (.done (.ret (.bool r))) s):wpAny (model prog w) A (ZL nm op ⟨[.ref a,.ref b],[]⟩) P E s:=by
 have hb:=hy.type;obtain⟨_,_,_,ho,hd,p,l1⟩:=Ho hx;obtain⟨_,_,_,O,U,c,l2⟩:=Ho hy;exact MN hb ho hd O U (Hn C _ _ _ _ p c h) (by rw[l1,l2];exact hz _ _) M q
def Hq (hx:dP s.heap xs x)(hy:dP s.heap ys y)(h:aU xs ys=some r)(hu:A.units<cLine)(q:Q (.bool r) s):wpAny (model prog w) A (richCompare .Lt x y) Q E s:=by
 have M:=hx.type;have ty:=hy.type;obtain⟨a,_,_,_,rfl,_⟩:=id hx;obtain⟨b,_,_,_,rfl,_⟩:=id hy;exact wpAny_richCompare_same_room M ty slot_tuple_lt (wpAny_call_entry slot_tuple_lt M PySem.F.entry_tuple_lt (OR Vj (λ_ _=>rr) (.inl rr) hx hy h ⟨_,rr,(λe=>nomatch e),q⟩) (PySem.F.args_tuple_lt_2 _ _)) hu
def Vl (hx:dP s.heap xs x)(hy:dP s.heap ys y)(h:aU ys xs=some r)(hu:A.units<cLine)(q:Q (.bool r) s):wpAny (model prog w) A (richCompare .Gt x y) Q E s:=by
 have M:=hx.type;have ty:=hy.type;obtain⟨a,_,_,_,rfl,_⟩:=id hx;obtain⟨b,_,_,_,rfl,_⟩:=id hy;exact wpAny_richCompare_same_room M ty slot_tuple_gt (wpAny_call_entry slot_tuple_gt M PySem.F.entry_tuple_gt (OR Vk (λ_ _=>rr) (.inr (.inl rr)) hx hy h ⟨_,rr,(λe=>nomatch e),q⟩) (PySem.F.args_tuple_gt_2 _ _)) hu
end
def o9:List At×D->List (List At×D)->D
 |b,[]=>b.2
 |b,x::r=>if aU b.1 x.1=some true then o9 x r else o9 b r
def oB:List At×D->List (List At×D)->D
 |b,[]=>b.2
 |b,x::r=>if aU x.1 b.1=some true then oB x r else oB b r
noncomputable def mmP {f:String->CmpOp->Builtin}(_:f "max" .Gt=Builtin.«max.loop»):=f
def mmL:String->CmpOp->Builtin:=mmP rr
noncomputable def mmQ {f:String->Builtin}(_:f "max" = Builtin.«max»):=f
def mmF:String->Builtin:=mmQ rr
structure MM (nm lp:String)(ns:Str)(op:CmpOp)(lt:List At->List At->Option Bool)(go:List At×D->List (List At×D)->D):Prop where
 hn:(toString nm++toString ".loop" : String)=lp
 en:entryFor table lp=some (mmL nm op)
 pl:plainId lp=true
 k2:builtinKind nm=none
 p2:plainId nm=true
 e2:entryFor table nm=some (mmF nm)
 ka:∀a v:Value,argsOk nm ⟨[a],[(Str.ofString "key",v)]⟩
 bt:bootBuiltins ns=some (.builtin nm)
 n1:ns ≠ "__name__"
 n2:(ns == ("__debug__" : Str))=false
 g0:∀b,go b []=b.2
 g1:∀b x r,go b (x::r)=if lt b.1 x.1=some true then go x r else go b r
 cg:∀ {ks:List (List At)},cy ks=true->∀ {a b},a∈ks->b∈ks->∃r,lt a b=some r
 rc:∀ {prog:Program}{w:World}{A:Around}{E:Value->Shared->Prop}{s:Shared}{xs ys:List At}{x y:Value}{r:Bool}{Q:Value->Shared->Prop},dP s.heap xs x->dP s.heap ys y->lt ys xs=some r->A.units<cLine->Q (.bool r) s->wpAny (model prog w) A (richCompare op x y) Q E s
def mmx:MM "max" "max.loop" "max" .Gt aU o9:=
 ⟨O9,PySem.F.entry_max_loop,PySem.F.plain_max_loop,PySem.F.kind_max,PySem.F.plain_max,PySem.F.entry_max,λ_ _=>by kernel_rfl,rr,O9,O9,λ_=>rr,λ_ _ _=>rr,λh _ _ a b=>⟨_,fK h a b⟩,Vl⟩
def mmn:MM "min" "min.loop" "min" .Lt (λa b=>aU b a) oB:=
 ⟨O9,PySem.F.entry_min_loop,PySem.F.plain_min_loop,PySem.F.kind_min,PySem.F.plain_min,PySem.F.entry_min,λ_ _=>by kernel_rfl,rr,O9,O9,λ_=>rr,λ_ _ _=>rr,λh _ _ a b=>⟨_,fK h b a⟩,Hq⟩
section
variable {X:Cx}{af:AO}{σ:St}
def AY (J:Inv X ((M,O)::(U,o2)::af) σ H' s'):Inv X ((U,o2)::(M,O)::af) σ H' s':=
 J.pins_of λq hq=>J.pin q (by
  grind)
def qD (hp:∀q∈X.pn++af,q.1≠a)(h:S≠a):∀q∈X.pn++((S,o)::af),q.1≠a:=λq hq=>by
 grind
def p9 (I:Inv X af σ H s)(r:aF v u)(i:Is X.K H v d)(e:nB d=some k):dP s.heap k u:=by
 have:=mn I (.cons r .nil) (.cons i .nil) (by simp [du,e];rfl);cases this;assumption
inductive MK (X:Cx)(af:List (Addr×Obj))(σ:St)(S It l:Addr)(o:Obj)(j:Nat)(N H:Hp)(y:List At×D)(u ku:Value)(s:Shared):Prop
 |mk (H2 N2:Hp) (v kv:V) (kd:D) (oI:Obj) (J:Inv X ((S,o)::(It,oI)::af) σ H2 s) (Ai:s.heap.IsListIter It l (j+1)) (x:Ext N N2 H H2) (ru:aF v u) (iv:Is X.K N2 v y.2) (rk:aF kv ku) (ik:Is X.K N2 kv kd) (ek:nB kd=some y.1)
def Hr {E:QV}{It:Addr}(hh:X.A.handled=none)(k:Cv X X.A.in1 σ (.ref qa) B H1 kf)(hq:fD X.K B l vs)(iv:IsL X.K B vs ds)(m:j4 kf ds=some jj)(ek:du jj=some ks)(p:X.s₀.z<=It)(t:∀q∈X.pn++((S,o)::af),q.1≠It)
  (x:l≠It) (hz:(ks.zip ds)[j]? = some y) (I:Inv X ((S,o)::(It,oI)::af) σ H s) (Ai:s.heap.IsListIter It l j) (M:Ext B N H1 H):
  wpAny (model X.prog X.w) X.A.in1 (pyNext (.ref It)) (λr s1=>∃u,r=some u/\wpAny (model X.prog X.w) X.A.in1 (call (.ref qa) [u]) (MK X af σ S It l o j N H y u) (λ_ _=>False) s1) E s:=by
 obtain⟨its,C,pl,_⟩:=I.list ((M.bn.trans M.nh).seq hq);obtain⟨hk,hd⟩:=getElem?_zip_eq_some.mp hz;obtain⟨v,hv,U⟩:=iv.get hd;obtain⟨kd,d,D⟩:=qC m hd;obtain⟨u,hu,ru⟩:=C.get hv;have F:=by
  have:=ib ek (i:=j) (vV d).1;rw[vF,d,vF,hk]at this;exact this
 refine(Walks.list (A:=X.A.in1) hh It l x _).item j _ _ _ (by simpa using(vV hu).1) ⟨Ai,pl.isList⟩ λu' h' Q G a J=>?_;have f:=by simpa using G
 rw[hu]at f;cases f;obtain⟨O,L,P,c⟩:=id a.1;exact⟨u,rr,bI (k _ _ H N v u y.2 kd (AY (gb (AY I) p t (λb o n e=>J b o (by simpa using n) e) L (λv z=>by rw[c]at z;cases z))) M.hh M.bn M.nh (U.mono M.bn) ru D) λku s2 ⟨kv,H2,g,rk,N2,h,ik⟩=>
  ⟨H2,N2,v,kv,kd,O,g,⟨O,(g.pin (It,O) (mY _ (mZ _ mX))).1,P,c⟩,h,ru,U.mono (M.bn.trans h.bn),rk,ik,F⟩⟩
def MO {nm lp:String}{ns:Str}{op:CmpOp}{lt:List At->List At->Option Bool}{go:List At×D->List (List At×D)->D}(M:MM nm lp ns op lt go){F:Value}{l S It:Addr}{vs:LV}{ds Y:LD}{ks:List (List At)}{B G:Hp}{kf:D->Option D}{d0:D}{R:Result->Shared->Prop}(hh:X.A.handled=none)(hu:X.A.in1.units<cLine)(Ls:Cv X X.A.in1 σ F B G kf)(J:∃a,F=.ref a)(hq:fD X.K B l vs)(iv:IsL X.K B vs ds)
  (Z:j4 kf ds=some Y) (ek:du Y=some ks) (hc:cy ks=true) (S0:X.s₀.z<=S) (I0:X.s₀.z<=It) (W4:∀q∈X.pn++af,q.1≠S) (S9:∀q∈X.pn++af,q.1≠It) (C:S≠It) (Oz:S≠l) (SA:l≠It)
  (hR:∀(s':Shared)(H' N:Hp)(v:V)(u:Value),Inv X af σ H' s'->Ext B N G H'->aF v u->Is X.K N v d0->R (.ok (.ret u)) s'):
  ∀(r j:Nat)(s:Shared)(H N:Hp)(U O:Value)(h m:V)(i p:D)(k:List At)(c:Nat)(oI:Obj),vs.length - j=r->j<=vs.length->Inv X ((S,seqObj "list" #[U,O] c)::(It,oI)::af) σ H s->s.heap.IsListIter It l j->Ext B N G H ->
   aF h U->Is X.K N h i->aF m O->Is X.K N m p->nB p=some k->k∈ks->go (k,i) ((ks.zip ds).drop j)=d0 ->
   codeAny (model X.prog X.w) X.A (.builtin lp ⟨[.ref It,F,.ref S],[]⟩) R s:=by
 obtain⟨qa,rfl⟩:=J;intro r;induction r with
 |zero=>
  intro j s H N U O h m i p k c oI hr hj I Ai d L i1 P i2 f mk hd;have Q:=I.pin (S,seqObj "list" #[U,O] c) (mY _ mX);have sB:aH B H:=d.bn.trans d.nh;obtain⟨its,rv,pl,_⟩:=I.list (sB.seq hq);have hl:=pl.isList;have W:=Walks.list (prog:=X.prog) (w:=X.w) (A:=X.A.in1) hh It l SA its.toArray;have hsz:its.toArray.size=its.length:=vH ..;have FH:vs.length=its.length:=rv.length;have S3:ds.length=its.length:=by rw[<-iv.length];exact rv.length
  have S8:i=d0:=by
   rw[List.drop_of_length_le (by rw[length_zip];lia)]at hd;rw[M.g0]at hd;exact hd
  subst S8;refine codeAny_builtin M.en ?_;rw[Around.under_plainId M.pl _];show wpAny _ X.A.in1 (seqItems? (.ref S)>>=_) _ _ _;refine wX (wpAny_seqItems Q.1 rr ?_);show wpAny _ X.A.in1 (tryCatch (pyNext (.ref It)) _>>=_) _ _ _;refine wX (wpAny_tryCatch (W.done _ _ _ ⟨by grind,hl⟩ λh' S4 Lr=>?_));have J1:Inv X ((It,oI)::(S,seqObj "list" #[U,O] c)::af) σ H s:=AY I;have Ze:∀q∈X.pn++((S,seqObj "list" #[U,O] c)::af),q.1≠It:=qD S9 C;have J2:=
   (j0 J1).turned (t':=S4) (λb o n e=>Lr b o (by simpa using n) e) (J1.pin (It,oI) (mY _ mX)).2.1 (J1.pin (It,oI) (mY _ mX)).2.2.1 (.inr I0) (nE J1) Ze
  have t:=J2.pin (S,seqObj "list" #[U,O] c) (mY _ mX);obtain⟨c2,F6⟩:∃c2,(h'.update S (Obj.mapSeq λ_=>(#[]:AV))).get? S=some (seqObj "list" #[] c2):=⟨_,get?_update_seq t.1 λ_=>#[]⟩;have E:=vW h' S (Obj.mapSeq λ_=>(#[]:AV));show wpAny _ X.A.in1 (updateSeq S (λ_=>#[])>>=_) _ _ _;refine wX ?_;refine wpAny_updateSeq t.1 rr (wX (wpAny_letGo (wY ?_)));exact hR _ H N h U (j0 (gb (t':=S4) J2 S0 W4 (λb o n e=>(E.2 b n).trans e) F6 c6)) d L i1
 |succ r ih=>
  intro j s H N U O h m i p k c oI hr hj I Ai d L i1 P i2 f mk hd;have mT:j<(ks.zip ds).length:=by rw[length_zip,fL ek,mo Z,<-iv.length];simp<;>lia
  have Q:=I.pin (S,seqObj "list" #[U,O] c) (mY _ mX);have hz:=vU mT;rw[List.drop_eq_getElem_cons mT,M.g1]at hd;generalize (ks.zip ds)[j]=y at hz hd;have hm:y.1∈ks:=vL (getElem?_zip_eq_some.mp hz).1;obtain⟨r,T⟩:=M.cg hc mk hm;refine codeAny_builtin M.en ?_;rw[Around.under_plainId M.pl _];show wpAny _ X.A.in1 (seqItems? (.ref S)>>=_) _ _ _;refine wX (wpAny_seqItems Q.1 rr ?_);show wpAny _ X.A.in1 (tryCatch (pyNext (.ref It)) _>>=_) _ _ _;refine wX (wpAny_tryCatch (bI (Hr hh Ls hq iv Z ek I0 (qD S9 C) SA hz I Ai d) λ_ s1 ⟨u,e,h1⟩=>?_));subst e;refine wX (wpAny_tryCatch (wpAny_holding (wpAny_mono h1 (λku s2 ⟨H2,N2,v,kv,kd,Xg,x,W7,g,ru,W1,rk,ik,Tr⟩=>?_) λ_ _ z=>z.elim)));have t1:=p9 x rk (ik.mono g.nh) Tr;have t2:=p9 x P (i2.mono (g.bn.trans g.nh)) f;refine wX (wpAny_tryCatch (wpAny_holding (wX (M.rc t1 t2 T hu ?_))));refine wX (wpAny_holding (wpAny_truthy_bool ?_));refine wX (wpAny_letGo (wY ?_));cases r with
  |true=>
   rw[if_pos T]at hd;have E:=vW s2.heap S (Obj.mapSeq λ_=>#[u,ku]);simp only[if_true];have W9:=x.pin (S,seqObj "list" #[U,O] c) (mY _ mX);refine wX (wpAny_updateSeq W9.1 rr (wX (wpAny_letGo ?_)));rw[M.hn];obtain⟨o,g1,g2⟩:=W7;exact wY ⟨plainId_quiet M.pl _,ih (j+1) _ H2 N2 u ku v kv y.2 kd y.1 _ Xg N9 N9 (gb (t':=s2.toks) x S0 (qD W4 C.symm) (λb o n e=>(E.2 b n).trans e) (get?_update_seq W9.1 λ_=>#[u,ku]) c6) ⟨o,(E.2 It C.symm).trans g1,g2⟩ (d.trans g) ru W1 rk ik Tr hm hd⟩
  |false=>
   rw[if_neg (by rw[T];simp)]at hd;simp only[uV,if_false];refine wX (wpAny_letGo ?_);rw[M.hn];exact wY ⟨plainId_quiet M.pl _,ih (j+1) _ H2 N2 U O h m i p k c Xg N9 N9 x W7 (d.trans g) L (i1.mono g.bn) P (i2.mono g.bn) f mk hd⟩
end
@[simp] def Rt (go:List At×D->List (List At×D)->D)(f:FE)(kf:Env->D->Option D):FE:=λρ=>(f ρ).bind λx=>match x.1 with
 |.lst ds=>(j4 (kf ρ) ds).bind λM=>(du M).bind λks=>if cy ks=true then match ks.zip ds with
  |[]=>none
  |y::r=>some (go y r,false)
  else none
 |_=>none
@[simp] def Cw:=Rt o9
@[simp] def Cy:=Rt oB
section
variable {X:Cx}{e ke:Expr}{p pos kp:Pos}
def OS {nm lp:String}{ns:Str}{op:CmpOp}{lt:List At->List At->Option Bool}{go:List At×D->List (List At×D)->D}(M:MM nm lp ns op lt go){f:FE}{kf:Env->D->Option D}{k:Nat}(hm:X.mg ns=none)(he:JE X e f)(hk:JK X X.A.in1 ke kf)(t:dq k X.A)(Z:Gl X ns)
  (YY:starEach [e] X.env=[(false,eval e X.env)]) (YZ:backTo pos (starEach [e] X.env)=(false,eval e X.env)::backTo pos (starEach [] X.env)) (DF:(backTo pos (starEach [e] X.env)).any (·.1)=false)
  (Lb:(backToKw pos (keywordEach [⟨some "key",ke,kp⟩] X.env)).all (·.1.isSome)=true) (Za:(backToKw pos (keywordEach [⟨some "key",ke,kp⟩] X.env)).any (·.1.isNone)=false)
  (Zb:(backToKw pos (keywordEach [⟨some "key",ke,kp⟩] X.env)).filterMap (·.1)=[("key" : Str)]):
  JE X (.Call (.Name ns p) [e] [⟨some "key",ke,kp⟩] pos) (Rt go f kf):=by
 intro af s σ H Q I h;obtain⟨B,ρ,d,b,sB,rep,O,q⟩:=h;obtain⟨⟨xd,xb⟩,ex,O⟩:=oX O;cases xd<;>try (cases O;done)
 rename_i ds;obtain⟨jj,w,O⟩:=oX O;obtain⟨ks,ek,O⟩:=oX O;split at O
 .rename_i hc;split at O
  .cases O
  .rename_i y aj i;cases O
   refine wpAny_Call_Name_kw (fz I Z hm M.bt ?_ M.n1 M.n2);refine callWith_kw (bI ((dB he f6 YY) pos af s σ H (λvs g=>∃v N,vs=[v]/\Ext B N H g/\Is X.K N v (.lst ds)) I ⟨B,ρ,_,_,sB,rep,ex,λv g N a i1 _=>⟨v,N,rr,a,i1⟩⟩) λus s1 hA=>?_) YZ DF Lb Za;obtain⟨vs1,g,I1,r1,v,N,rfl,a,i1⟩:=hA;obtain⟨u,rfl,ru⟩:=eC r1;refine kws_cons (hk af s1 σ g N ρ _ _ I1 a.nh (rep.mono a.bn) λj H2 s2 c m2 x=>kws_nil ?_);rw[Zb];cases i1
   rename_i l vs hq m;cases ru
   have C:aH N H2:=a.nh.trans m2;obtain⟨its,rv,pl,hz⟩:=c.list (C.seq hq);have E:l<s2.z:=by
    obtain⟨ol,Xc,_⟩:=pl.isList;exact vX Xc
   have F:(ks.zip ds)[0]? = some y:=by rw[i];rfl
   have r:=vL (getElem?_zip_eq_some.mp F).1;refine kmk_tree M.k2 M.p2 M.e2 (M.ka _ _) ?_;refine wX (wpAny_of_eq (show Builtin.Builtins.bindParams nm ["key","default"] 0 ⟨[],[(Str.ofString "key",.ref j)]⟩=pure [some (.ref j),none]from rr) ?_);refine wX (wY ?_);refine wX (wpAny_pyIter_list pl.isList ?_);refine wX (wpAny_newList ?_ (uN _));rw[M.hn];let It:Addr:=s2.z;let oI:Obj:={ cls:=.type "list_iterator",data:=.fields #[.ref l,.int 0 0] };let S:Addr:=(s2.heap.push oI).objs.size;have hS:S=s2.z+1:=size_push' ..;have U:S≠It:=by rw[hS];exact ne_of_gt (Nat.lt_succ_self _)
   have J1:Inv X ((It,oI)::af) σ H2 { s2 with heap:=s2.heap.push oI }:=p8 (t':=s2.toks) c (λb u q=>vZ _ q) (vT _) (vY _ rr) (λv z=>by cases z);have J2:Inv X ((S,seqObj "list" #[] 0)::(It,oI)::af) σ H2 _:=p8 (s:={ s2 with heap:=s2.heap.push oI }) (t':=s2.toks) J1 (λb u q=>vZ _ q) (vT _) (vY _ rr) c6;have G:X.s₀.z<=It:=c.sz;have J:X.s₀.z<=S:=by rw[hS];exact le_succ_of_le c.sz
   have L:∀q∈X.pn++af,q.1≠It:=λq hq=>vS (vX (c.pin q hq).1);have P:∀q∈X.pn++af,q.1≠S:=λq hq=>by rw[hS];exact vS (lt_succ_of_lt (vX (c.pin q hq).1))
   have R:l≠It:=vS E;have Oz:S≠l:=by rw[hS];exact ne_of_gt (lt_succ_of_lt E)
   have hh:X.A.handled=none:=t.hd;have hu:X.A.in1.units<cLine:=by have:=t.un;lia
   have pS:=J2.pin (S,seqObj "list" #[] 0) (mY _ mX);have pI:=J2.pin (It,oI) (mY _ (mZ _ mX));refine wY ⟨plainId_quiet M.pl _,?_⟩;refine codeAny_builtin M.en ?_;rw[Around.under_plainId M.pl _];refine wX (wpAny_seqItems pS.1 rr ?_);refine wX (wpAny_tryCatch (bI (Hr hh x hq m w ek G (qD L U) R F J2 ⟨oI,pI.1,rr,rr⟩ (.refl C)) λ_ s1 ⟨u,e,h1⟩=>?_));subst e;refine wX (wpAny_tryCatch (wpAny_holding (wpAny_mono h1 (λku T ⟨H3,N3,v,kv,kd,Xg,V,⟨o,g1,g2⟩,x3,ru,W1,rk,ik,Tr⟩=>?_) λ_ _ z=>z.elim)));have W:=V.pin (S,seqObj "list" #[] 0) (mY _ mX);have Y:=vW T.heap S (Obj.mapSeq λ_=>#[u,ku]);refine wX (wpAny_updateSeq W.1 rr ?_);rw[M.hn];have Zg:1<=vs.length:=by
    have:=congrArg List.length i;rw[length_zip,vE,<-m.length]at this;grind
   exact wY ⟨plainId_quiet M.pl _,MO M (S:=S) (It:=It) hh hu x ⟨j,rr⟩ hq m w ek hc J G P L U Oz R (λs' H' N' v' u' J' x' r' i'=>⟨v',H',J',r',q _ _ _ ((a.trans (.grow a.nh m2)).trans x') i' H9⟩) _ 1 _ H3 N3 u ku v kv y.2 kd y.1 _ Xg rr Zg
    (gb (t':=T.toks) V J (qD P U.symm) (λb o n e=>(Y.2 b n).trans e) (get?_update_seq W.1 λ_=>#[u,ku]) c6) ⟨o,(Y.2 It U.symm).trans g1,g2⟩ x3 ru W1 rk ik Tr r (by rw[i];rfl)⟩
 .cases O
end
section
variable {X:Cx}
@[simp] def Xq:D->D->OB
 |.tup xs,.tup ys=>(iN xs).bind λas=>(iN ys).bind λbs=>(aU as bs).map λr=>(.bl r,false)
 |_,_=>none
def Vm (hu:X.A.units+40<cLine):cB X (compareOp .Lt) (rD X.K Xq):=by
 intro af s σ H x y v u Q I O U q;obtain⟨B,dx,a,d,b,M,c,f,e,q⟩:=q;cases dx<;>try (simp at e)
 cases a<;>try (simp at e)
 obtain⟨as,g,e⟩:=oX e;obtain⟨bs,e2,e⟩:=oX e;obtain⟨r,h,e⟩:=oY e;cases e
 exact Hq (p9 I O (c.mono M) g) (p9 I U (f.mono M) e2) h N9 ⟨.bl r,H,I,rr,q.one M (.bl r)⟩
end
end DL
namespace DL
open PySem PySem.Spec PyProof.Rows L2
section
variable {X:Cx}
@[simp] def xx9:D->D->OB
 |d,.tup [.ty n,.ty m]=>if Ej d=true then none else if n = "list"/\m = "tuple" then some (.bl (gO d == "list" || gO d == "tuple"),false)else none
 |_,_=>none
@[simp] def Cz:LD->OB
 |[d,e]=>xx9 d e
 |_=>none
def E7 (K:Frag)(d:D)(hd:∀n,d≠.ty n):PySem.W.kitAny K (.type (gO d)) [.type "list",.type "tuple"]=some (gO d == "list" || gO d == "tuple"):=by
 obtain⟨_,_,_,k4,k5⟩:=G7 K d hd;unfold PySem.W.kitAny;rw[k4];cases gO d == "list" with
 |true=>rfl
 |false=>
  unfold PySem.W.kitAny;rw[k5];cases gO d == "tuple" with
  |true=>rfl
  |false=>rfl
def Hs (I:Inv X af σ H s)(i:Is X.K H v d)(hd:∀n,d≠.ty n)(M:aF v u)(O:IsTup s.heap tp its.toArray)(e:PySem.W.kitAny X.K (.type (gO d)) its=some b)(h:∀tk,Q (.bool b) { s with toks:=tk }):
  wpAny (model X.prog X.w) A (call (.builtin "isinstance") [u,.ref tp]) Q E s:=by
 obtain⟨⟨cls,dd,data,sl⟩,ho,hc,n,U⟩:=id O;subst hc;subst U;cases i with
 |non=>cases (show u=Value.none from M);exact PySem.W.kia_tup PySem.W.kitx_none I.kIn True.intro ho e (λz=>nomatch z) h
 |bl y=>cases (show u=Value.bool y from M);exact PySem.W.kia_tup PySem.W.kitx_bool I.kIn True.intro ho e (λz=>nomatch z) h
 |int i=>obtain⟨t,q⟩:=(show ∃t,u=Value.int i t from M);cases q;exact PySem.W.kia_tup PySem.W.kitx_int I.kIn True.intro ho e (λz=>nomatch z) h
 |str y=>obtain⟨t,q⟩:=(show ∃t,u=Value.str y t from M);cases q;exact PySem.W.kia_tup PySem.W.kitx_str I.kIn True.intro ho e (λz=>nomatch z) h
 |ty n=>exact absurd rr (hd n)
 |dk h1 _ _=>
  cases M
  obtain⟨_,_,_,vs,_,o,es,c,a,e2,_⟩:=(show bf X.prog X.w H s.heap _ (.dK _ _)from I.hok _ _ h1);exact PySem.W.kia_tup PySem.W.kitx_dict I.kIn ⟨o,a,e2.1⟩ ho e (λz=>nomatch z) h
 |dt h1 _ _=>
  cases M
  obtain⟨_,_,xs,_,o,es,c,a,e2,_⟩:=(show bf X.prog X.w H s.heap _ (.dT _)from I.hok _ _ h1);exact PySem.W.kia_tup PySem.W.kitx_dict I.kIn ⟨o,a,e2.1⟩ ho e (λz=>nomatch z) h
 |tup O _=>
  cases M
  obtain⟨its,_,⟨o,h1,h2,_⟩,_⟩:=I.tuple O;exact PySem.W.kia_tup PySem.W.kitx_tuple I.kIn ⟨o,h1,h2⟩ ho e (λz=>nomatch z) h
 |lst hl _=>
  cases M
  obtain⟨its,_,⟨o,n,h1,h2,_⟩,_⟩:=I.list hl;exact PySem.W.kia_tup PySem.W.kitx_list I.kIn ⟨o,h1,h2⟩ ho e (λz=>nomatch z) h
def E8:bg X (.builtin "isinstance") (xA X.K Cz):=by
 intro af s σ H xs us Q I rs q;obtain⟨B,ds,d,b,M,i,e,q⟩:=q;cases i with
 |nil=>cases e
 |@cons _ dx _ _ i1 i=>
  cases i with
  |nil=>cases e
  |cons i2 i=>
   cases i with
   |cons _ _=>cases e
   |nil=>
    cases i2<;>try (cases e)
    rename_i hs hl;cases hl with
    |nil=>cases e
    |cons a hl=>
     cases a<;>try (cases e)
     cases hl with
     |nil=>cases e
     |cons c hl=>
      cases c<;>try (cases e)
      cases hl with
      |cons _ _=>cases e
      |nil=>
       obtain⟨k,l,rfl,f,g⟩:=BN rs;change(if _ then _ else _)=_ at e;split at e
       .cases e
       .rename_i h;have hd:∀n,dx≠.ty n:=λn z=>by subst z;exact h rr
        split at e
        .rename_i hh;obtain⟨rfl,rfl⟩:=hh;cases e
         cases g
         obtain⟨its,j,p,_⟩:=I.tuple (aV M hs);obtain⟨m,o,rfl,O,U⟩:=j.two;cases O
         cases U
         exact Hs I (i1.mono M) hd f p (E7 X.K dx hd) λtk=>⟨.bl _,H,I.tok tk,rr,q.one M (.bl _)⟩
        .cases e
end
@[simp] noncomputable def ji:D->Option cZ
 |.int i=>some (.inl i)
 |.str x=>some (.inr x)
 |_=>none
def oC {K:Frag}{B:Hp}{v:V}{d:D}{k:cZ}(i:Is K B v d)(e:ji d=some k):v=kV k:=by
 cases i<;>simp [ji]at e<;>cases e<;>rfl
noncomputable def bC {κ:Type}[DecidableEq κ]:List κ->LD->κ->Option D
 |k'::ks,d::ds,k=>if k'=k then some d else bC ks ds k
 |_,_,_=>none
theorem qE {κ:Type}[DecidableEq κ]{K:Frag}{B:Hp}(k:κ):∀ {ks:List κ}{vs:LV}{ds:LD},ks.length=vs.length->IsL K B vs ds ->
  (∃v d,jl (ks.zip vs) k=some v/\bC ks ds k=some d/\Is K B v d)\/(jl (ks.zip vs) k=none/\bC ks ds k=none)
 |[],vs,ds,_,_=>.inr ⟨by cases vs<;>rfl,by cases ds<;>rfl⟩
 |k'::ks,[],_,h,_=>by simp at h
 |k'::ks,v::vs,_,h,.cons i is=>by
  rw[zip_cons_cons];unfold bC;by_cases e:k'=k
  .rw[if_pos e];exact .inl ⟨v,_,lR e,rr,i⟩
  .rw[if_neg e,lS e];exact qE k (by simpa using h) is
section
variable {X:Cx}{o e i:Expr}{pos:Pos}
@[simp] def Vn:D->D->OB
 |.dk ks vs,y=>(ji y).map λk=>((bC ks vs k).getD .non,false)
 |_,_=>none
def Ht {cm b8:Pos}{fo fe:FE}(hu:X.A.units+1<cLine)(ho:JE X o fo)(he:JE X e fe)(m:M1 X o "get" cm e b8):JE X (.Call (.Attribute o "get" cm) [e] [] b8) (f2 Vn fo fe):=by
 refine PE.to (xO hu ho he m) λσ H Q q=>?_;obtain⟨B,ρ,d,bb,c,r,M,q⟩:=q;obtain⟨x,ex,M⟩:=oX M;obtain⟨y,f,M⟩:=oX M;refine⟨B,ρ,x.1,x.2,c,r,ex,λv l N1 U i1 n=>?_⟩;obtain⟨xd,p⟩:=x;cases i1 with
 |@dk a ks vs ds ob h hl hs=>
  obtain⟨k,hk,M⟩:=oY M;cases M
  refine⟨a,rr,.inl ⟨_,_,.inl (U.nh _ _ h)⟩,N1,ρ,y.1,y.2,U.nh,r.mono U.bn,f,λs H2 N2 O i2 _=>?_⟩;have hv:=oC i2 hk;subst hv;refine⟨jl _ k,.inl ⟨_,k,_,.inl (O.nh _ _ (O.bn _ _ h)),rr,rr⟩,?_⟩;have g:=hs.mono O.bn;rcases qE k hl g with⟨v,d',b,e2,j⟩|⟨b,e2⟩
  .rw[b];rw[e2]at q;exact(q.into (U.trans O)).one O.nh j
  .rw[b];rw[e2]at q;exact(q.into (U.trans O)).one O.nh .non
 |_=>simp at M
@[simp] def XW:D->D->OB
 |.dk ks vs,y=>(ji y).bind λk=>(bC ks vs k).map λd=>(d,false)
 |_,_=>none
def Ru {fo fi:FE}(hu:X.A.units+1<cLine)(ho:JE X o fo)(hi:JE X i fi)(hs:Qk i):JE X (.Subscript o i pos) (f2 XW fo fi):=by
 refine PE.to (LX hu ho hi hs) λσ H Q q=>?_;obtain⟨B,ρ,d,bb,c,r,M,q⟩:=q;obtain⟨x,ex,M⟩:=oX M;obtain⟨y,f,M⟩:=oX M;refine⟨B,ρ,x.1,x.2,c,r,ex,λv l N1 U i1 m=>?_⟩;obtain⟨xd,n⟩:=x;cases i1 with
 |@dk a ks vs ds ob h hl b=>
  obtain⟨k,hk,M⟩:=oX M;obtain⟨d0,hd,M⟩:=oY M;cases M
  refine⟨N1,ρ,y.1,y.2,U.nh,r.mono U.bn,f,λp H2 N2 O i2 _=>?_⟩;have hv:=oC i2 hk;subst hv;rcases qE k hl (b.mono O.bn)with⟨v,d',g,e2,j⟩|⟨_,e2⟩
  .rw[hd]at e2;cases e2
   exact⟨a,v,rr,.inl ⟨_,k,_,.inl (O.nh _ _ (O.bn _ _ h)),rr,g.symm⟩,(q.into (U.trans O)).one O.nh j⟩
  simp_all
 |_=>simp at M
@[simp] def ZM:D->D->OB
 |y,.dk ks vs=>(ji y).map λk=>(.bl (bC ks vs k).isSome,false)
 |_,_=>none
@[simp] def wF:D->D->OB
 |y,.dk ks vs=>(ji y).map λk=>(.bl (!(bC ks vs k).isSome),false)
 |_,_=>none
def ul {κ:Type}[DecidableEq κ]{K:Frag}{B:Hp}{k:κ}{ks:List κ}{vs:LV}{ds:LD}(hl:ks.length=vs.length)(hs:IsL K B vs ds):(jl (ks.zip vs) k).isSome=(bC ks ds k).isSome:=by
 grind[qE]
def E9 {fi fo:FE}(hu:X.A.units+1<cLine)(hi:JE X i fi)(ho:JE X o fo)(hm:behindInMarks .NotIn o=false):JT X (.Compare i [.NotIn] [o] pos) (bx (f2 wF fi fo)):=by
 refine PT.to (P5 (Ed hu hi ho) hm) λσ H Q q=>?_;obtain⟨B,ρ,d,bb,b,r,M,q⟩:=pY q;obtain⟨y,c,M⟩:=oX M;obtain⟨x,ex,M⟩:=oX M;refine⟨B,ρ,y.1,y.2,b,r,c,λf g N1 O i2 _=>⟨N1,ρ,x.1,x.2,O.nh,r.mono O.bn,ex,λv H2 N2 U i1 j=>?_⟩⟩;obtain⟨xd,l⟩:=x;cases i1 with
 |@dk a ks vs ds ob h hl hs=>
  obtain⟨k,hk,M⟩:=oY M;cases M
  have hv:=oC i2 hk;subst hv;refine⟨a,jl _ k,rr,.inl ⟨_,k,_,.inl (U.nh _ _ h),rr,rr⟩,?_⟩;rw[ul hl hs];exact(q.into (O.trans U)).one U.nh (.bl _)
 |_=>simp at M
end
noncomputable def dh {κ:Type}[DecidableEq κ](ks:List κ)(k:κ):List κ:=if k∈ks then ks else ks++[k]
noncomputable def cM {κ α:Type}[DecidableEq κ](ks:List κ)(xs:List α)(k:κ)(x:α):List α:=if k∈ks then List.zipWith (λk' M=>if k'=k then x else M) ks xs else xs++[x]
theorem C0 {κ:Type}[DecidableEq κ](k:κ):∀ {ks:List κ}{vs:LV},ks.length=vs.length->((ks.zip vs).any λkv=>decide (kv.1=k))=decide (k∈ks)
 |[],_,_=>by simp
 |k'::ks,[],h=>by simp at h
 |k'::ks,v::vs,h=>by
  have M:=C0 k (by simpa using h);simp_all<;>lia
theorem C1 {κ:Type}[DecidableEq κ](k:κ)(v:V):∀(ks:List κ)(vs:LV),(ks.zip vs).map (λkv=>if kv.1=k then (kv.1,v)else kv)=ks.zip (List.zipWith (λk' M=>if k'=k then v else M) ks vs)
 |[],_=>by simp
 |_::_,[]=>by simp
 |k'::ks,w::vs=>by
  rw[zip_cons_cons,uY,C1 k v ks vs,List.zipWith_cons_cons,zip_cons_cons];lia
def pA {κ:Type}[DecidableEq κ]{ks:List κ}{vs:LV}(hl:ks.length=vs.length)(k:κ)(v:V):mW (ks.zip vs) k v=(dh ks k).zip (cM ks vs k v):=by
 unfold mW dh cM;rw[C0 k hl];by_cases h:k∈ks
 .rw[if_pos (ou h),if_pos h,if_pos h,C1]
 simp_all[List.zip_append]
def mq {κ α:Type}[DecidableEq κ]{ks:List κ}{xs:List α}(hl:ks.length=xs.length)(k:κ)(x:α):(dh ks k).length=(cM ks xs k x).length:=by
 unfold dh cM;split<;>simp[hl]
theorem IsL.zipWith {κ:Type}[DecidableEq κ]{K:Frag}{B:Hp}{k:κ}{v:V}{d:D}(i:Is K B v d):∀ {ks:List κ}{vs:LV}{ds:LD},IsL K B vs ds->IsL K B (List.zipWith (λk' M=>if k'=k then v else M) ks vs) (List.zipWith (λk' M=>if k'=k then d else M) ks ds)
 |[],_,_,_=>by simpa using IsL.nil
 |_::_,_,_,.nil=>by simpa using IsL.nil
 |k'::ks,_,_,.cons h t=>by
  rw[List.zipWith_cons_cons];refine .cons ?_ (IsL.zipWith i t);split<;>simp_all
def IsL.put {κ:Type}[DecidableEq κ]{K:Frag}{B:Hp}{k:κ}{v:V}{d:D}(i:Is K B v d){ks:List κ}{vs:LV}{ds:LD}(h:IsL K B vs ds):IsL K B (cM ks vs k v) (cM ks ds k d):=by
 unfold cM;split
 .exact h.zipWith i
 .exact h.append (.cons i .nil)
section
variable {K:Frag}{E:Ends}{σ:St}{H:Hp}
noncomputable def Hu (i:Nat):FS:=λρ=>some (.nx (ρ.set i (some (.dk [] [],true))))
noncomputable def Hv (i:Nat):FS:=λρ=>some (.nx (ρ.set i (some (.dt [] [],true))))
def cQ.newBox (s:cQ K B0 H0 N H σ ρ)(i:Nat)(hp:H p=none)(hb:∀C,Bx K C ob dd):cQ K B0 H0 (upd N p ob) (upd H p ob) (σ.set i (some (.ref p))) (ρ.set i (some (dd,true))):=by
 have x:=Ext.laid (o:=ob) s.ext.nh hp;have s1:=s.grow x;have M:=s.ext.nh.free hp;have O:¬own σ ρ p:=λz=>by obtain⟨ws,⟨q,_⟩,_⟩:=s.owned z;lia
 have c:aH _ (df (upd N p ob) (λb=>own σ ρ b\/b=p)):=dr λb u e q=>⟨x.bn _ _ e,λz=>z.elim q λz=>by subst z;rw[M]at e;cases e⟩;refine s1.bindOwn au (s.ext.hh.free hp) (λj e q z=>O ⟨j,e,q,z⟩) (λj e _ q=>?_) (λj e _ q=>?_) (hb _)
 .obtain⟨w,h1,h2⟩:=s.sh j e q;exact⟨w,h1,h2.mono c⟩
 .obtain⟨U,o',h1,h2,_,h4⟩:=s.ow j e q;exact⟨U,o',h1,x.bn _ _ h2,h4.mono c⟩
def Hw (q:mR K (Hu i) E σ H):DN Gj (gY i) E σ H:=by
 obtain⟨B0,H0,ρ,r,⟨N,s⟩,e,p⟩:=q;cases e
 exact λa ob ha=>p _ _ ⟨_,s.newBox i ha λ_=>.dk (ks:=[]) rr .nil⟩
def Hx (q:mR K (Hv i) E σ H):DN Gk (gY i) E σ H:=by
 obtain⟨B0,H0,ρ,r,⟨N,s⟩,e,p⟩:=q;cases e
 exact λa ha=>p _ _ ⟨_,s.newBox i ha λ_=>.dt (ks:=[]) rr .nil⟩
def yL (i:Nat)(O U:FE):FS:=λρ=>match ρ[i]? with
 |some (some (.dk ks vs,true))=>(U ρ).bind λv=>(O ρ).bind λk=>(ji k.1).bind λM=>if aO v.1=true/\ks.length<sizeLine then some (.nx (ρ.set i (some (.dk (dh ks M) (cM ks vs M v.1),true))))else none
 |_=>none
def Hy {i:Nat}{M O:FE}(q:mR K (yL i M O) E σ H):BS (FK i) (tD K M) (tD K O) E σ H:=by
 obtain⟨B0,H0,ρ,r,⟨N,s⟩,e,p⟩:=q;unfold yL at e;split at e
 .rename_i ks ds ei;obtain⟨v,ev,e⟩:=oX e;obtain⟨k,ek,e⟩:=oX e;obtain⟨b,hk,e⟩:=oX e;split at e
  .rename_i hx;cases e
   refine⟨N,ρ,v.1,v.2,s.ext.nh,s.rep,ev,λf g N1 c i1 _=>?_⟩;have s1:=s.grow c;obtain⟨a,o,h1,h2,h3,h4⟩:=s1.ow i _ ei;refine⟨.ref a,h1,N1,ρ,k.1,k.2,s1.ext.nh,s1.rep,ek,λh H2 N2 U i2 _=>?_⟩;have s2:=s1.grow U;have hv:=oC i2 hk;subst hv;obtain⟨j,o',k1,k2,k3,k4⟩:=s2.ow i _ ei;rw[h1]at k1;cases k1
   cases k4 with
   |@dk ks vs ds hl h5 ob=>
    refine⟨a,rr,.inl ⟨_,b,_,s2.ext.nh _ _ k2,rr,?_,λd=>?_⟩⟩
    .rw[length_zip];lia
    .rw[pA hl];exact p σ _ ⟨_,s2.writeB ei h1 (.dk (mq hl _ _) (h5.put (s2.flat (i1.mono U.bn) hx.1)))⟩
  .cases e
 simp_all
end
section
variable {X:Cx}{pos:Pos}{e k:Expr}
def MP (M:X.N.Nodup)(hi:X.N[i]? = some x)(hx:Lf X.env.scope x)(hs:swapsWith (.Dict [] [] dp) (some (.Name x p)) pos.line X.env=pure false)
  (hf:X.fn x=true\/X.env.scope.names.lookup x=some .local):JS X (.Assign [.Name x p] (.Dict [] [] dp) pos) (Hu i):=PS.to (vj M hi hx Gm hs hf) λ_ _ _ q=>Hw q
def MQ (M:X.N.Nodup)(hi:X.N[i]? = some x)(hx:Lf X.env.scope x)(hs:swapsWith (.Dict [] [] dp) (some (.Name x p)) pos.line X.env=pure false)
  (hf:X.fn x=true\/X.env.scope.names.lookup x=some .local):JS X (.Assign [.Name x p] (.Dict [] [] dp) pos) (Hv i):=PS.to (vj M hi hx Gn hs hf) λ_ _ _ q=>Hx q
def MT (hu:X.A.units+1<cLine)(hv:JE X e fv)(hk:JE X k fk)(U:X.N[i]? = some y)(M:Le X.env.scope y)(hd:(y == ("__debug__" : Str))=false)
  (O:(y == ("__classdict__" : Str))=false) (hs:swapsWith e (some (.Subscript (.Name y py) k pt)) pos.line X.env=pure false):JS X (.Assign [.Subscript (.Name y py) k pt] e pos) (yL i fk fv):=
 PS.to (vy hu (jo U M hd O) hk hv hs) λ_ _ _ q=>Hy q
end
section
variable {prog:Program}{w:World}{A:Around}{E:QV}{s:Shared}
abbrev nF (h:Heap)(z TI TO M:Addr)(f:Bool):Prop:=h.get? z=some { cls:=.type "zip",dict:=none,data:=.fields #[rawInt M,.bool f,.bool false,.ref TI,.ref TO],slots:=#[] }
def Hz (e:s.heap.get? a=some o)(h:Q (some o) s):wpAny (model prog w) A (loadIfAlive a) Q E s:=by
 intro O p M;simp_all[loadIfAlive]
def um {z TI TO M:Addr}{f:Bool}{U:Obj}{Q:Bool->Shared->Prop}(hz:nF s.heap z TI TO M f)(a:s.heap.get? M=some U)
  (q:∀h',nF h' z TI TO M true->Heap.SameBut z s.heap h'->Q false { s with heap:=h' }):wpAny (model prog w) A (Builtin.SmallTypes.ownedTupleIsFree (.ref z)) Q E s:=by
 refine wX (wpAny_field hz rr rr ?_);show wpAny _ _ (loadIfAlive _>>=_) _ _ _;refine wX (Hz a ?_);refine wX (wpAny_field hz rr rr ?_);cases f with
 |true=>
  exact wY (q _ hz (.refl _ _))
 |false=>
  refine wX (wpAny_setField_rec hz H9 λh' O s'=>wY (q h' O s'))
end
section
variable {prog:Program}{w:World}{A:Around}{E:QV}{s:Shared}
def EA {k1 k2:Bool}{z TI TO a i1 i2 l1 l2:Addr}{f:Bool}{l:Obj}{j:Nat}{xs ys:AV}{x y:Value}{Q:QV}(D:ZApart z TI TO i1 i2)(m1:l1≠z/\l1≠TO/\l1≠i1)(m2:l2≠z/\l2≠TO/\l2≠i1/\l2≠i2)
  (hz:nF s.heap z TI TO a f) (m:s.heap.get? a=some l) (n:IsPair s.heap TI (.ref i1) (.ref i2)) (p:jX k1 s.heap i1 l1 j) (r:jX k2 s.heap i2 l2 j) (t:jY k1 s.heap l1 xs) (q2:jY k2 s.heap l2 ys) (hx:xs[j]? = some x) (hy:ys[j]? = some y)
  (q:∀h',nF h' z TI TO a true->jX k1 h' i1 l1 (j+1)->jX k2 h' i2 l2 (j+1)->IsPair h' s.z x y ->
   (∀c o,c≠z->c≠i1->c≠i2->s.heap.get? c=some o->h'.get? c=some o)->Q (.ref s.z) { s with heap:=h' }):
  wpAny (model prog w) A (Builtin.«zip.__next__» ⟨[.ref z],[]⟩) (λdI s'=>∃v,dI=.done (.ret v)/\Q v s') E s:=by
 show wpAny _ _ (field (.ref z) 2>>=_) _ _ s;refine wX (wpAny_field hz rr (x:=.bool false) rr ?_);refine wX (wpAny_field hz rr (x:=.ref TI) rr (wX (wpAny_seqItems n rr ?_)));refine wX (um hz m λg1 u s1=>?_);simp only[uV,if_false];refine wX ?_;refine wX (wX (wpAny_holding ?_));refine wX (eF (s:={ s with heap:=g1 }) (p.upon λo e=>s1.extBut _ _ D.az e) (t.upon λo e=>s1.extBut _ _ m1.1 e) hx λk b s2=>wY ?_);refine wY (wX (wX (wpAny_holding ?_)));have M:∀ {c o},c≠z->c≠i1->s.heap.get? c=some o->k.get? c=some o:=λO c3 e=>s2.extBut _ _ c3 (s1.extBut _ _ O e);refine wX (eF (s:={ s with heap:=k }) (r.upon λo e=>M D.bz D.ab.symm e) (q2.upon λo e=>M m2.1 m2.2.2.1 e) hy λd g U=>wY ?_);refine wY (wY ?_);refine wX (wpAny_newTuple (hsz:=(by decide:2<=sizeLine)) ?_);have sz:d.objs.size=s.z:=by rw[U.1,s2.1,s1.1]
 have h:∀c o,c≠z->c≠i1->c≠i2->s.heap.get? c=some o->d.get? c=some o:=λc o O c3 i e=>U.extBut _ _ i (M O c3 e);refine wY ⟨_,rr,?_⟩;have hp:IsPair _ d.objs.size x y:=vY _ rr;rw[sz]at hp |-;exact q _ (vZ _ (U.extBut _ _ D.bz.symm (s2.extBut _ _ D.az.symm u))) (b.upon λo e=>vZ _ (U.extBut _ _ D.ab e)) (g.upon λo e=>vZ _ e) hp λc o O c3 i e=>vZ _ (h c o O c3 i e)
def HA {k1 k2:Bool}{z TI TO a i1 i2 l1 l2:Addr}{f:Bool}{h:Obj}{j:Nat}{xs ys:AV}{Q:PySem.Fin->Shared->Prop}(b:A.handled=none)(D:ZApart z TI TO i1 i2)(m1:l1≠z/\l1≠TO/\l1≠i1)(m2:l2≠z/\l2≠TO/\l2≠i1/\l2≠i2)
  (hz:nF s.heap z TI TO a f) (i:s.heap.get? a=some h) (k:IsPair s.heap TI (.ref i1) (.ref i2)) (d:jX k1 s.heap i1 l1 j) (l:jX k2 s.heap i2 l2 j) (g:jY k1 s.heap l1 xs) (q2:jY k2 s.heap l2 ys) (he:xs[j]? = none\/ys[j]? = none)
  (q:∀h' x,(∀c o,c≠z->c≠i1->c≠i2->s.heap.get? c=some o->h'.get? c=some o)->(∃o,h'.get? x=some o/\o.cls=.type "StopIteration")->E (.ref x) { s with heap:=h' }):
  wpAny (model prog w) A (Builtin.«zip.__next__» ⟨[.ref z],[]⟩) Q E s:=by
 show wpAny _ _ (field (.ref z) 2>>=_) _ _ s;refine wX (wpAny_field hz rr (x:=.bool false) rr ?_);refine wX (wpAny_field hz rr (x:=.ref TI) rr (wX (wpAny_seqItems k rr ?_)));refine wX (um hz i λg1 t s1=>?_);refine wX ?_;refine wX (wX (wpAny_holding ?_));cases hx:xs[j]? with
 |none=>
  exact wX (hU (s:={ s with heap:=g1 }) b (d.upon λo e=>s1.extBut _ _ D.az e) (g.upon λo e=>s1.extBut _ _ m1.1 e) hx λU x s2 hX=>q U x (λc o O c3 _ e=>s2 _ _ c3 (s1.extBut _ _ O e)) hX)
 |some v=>
  have hy:ys[j]? = none:=by
   lia
  refine wX (eF (s:={ s with heap:=g1 }) (d.upon λo e=>s1.extBut _ _ D.az e) (g.upon λo e=>s1.extBut _ _ m1.1 e) hx λU m s2=>wY ?_);refine wY (wX (wX (wpAny_holding ?_)));have M:∀ {c o},c≠z->c≠i1->s.heap.get? c=some o->U.get? c=some o:=λO c3 e=>s2.extBut _ _ c3 (s1.extBut _ _ O e);exact wX (hU (s:={ s with heap:=U }) b (l.upon λo e=>M D.bz D.ab.symm e) (q2.upon λo e=>M m2.1 m2.2.2.1 e) hy λn x p hX=>q n x (λc o O c3 r e=>p _ _ r (M O c3 e)) hX)
end
structure ZA (k1 k2:Bool)(z TI TO i1 i2 l1 l2:Addr):Prop where
 D:ZApart z TI TO i1 i2
 m1:l1≠z/\l1≠TO/\l1≠i1
 m2:l2≠z/\l2≠TO/\l2≠i1/\l2≠i2
def HB (k1 k2:Bool)(z TI TO i1 i2 l1 l2 S:Addr)(i:Nat)(h:Heap):Prop:=
 IsPair h TI (.ref i1) (.ref i2)/\jX k1 h i1 l1 i/\jX k2 h i2 l2 i/\((IsZip h z TI TO .none/\∃a b,IsPair h TO a b)\/∃M f O U,nF h z TI TO M f/\h.get? M=some O/\M∉[z,TI,TO,i1,i2]/\M≠S/\h.get? TO=some U)
def HB.keep {k1 k2:Bool}{z TI TO i1 i2 l1 l2 S:Addr}{i:Nat}{h h':Heap}(st:HB k1 k2 z TI TO i1 i2 l1 l2 S i h)(hS:S∉[z,TI,TO,i1,i2])(k:∀b o,b≠S->h.get? b=some o->h'.get? b=some o):HB k1 k2 z TI TO i1 i2 l1 l2 S i h':=by
 obtain⟨M,O,U,c⟩:=st;have n:∀ {b},b∈[z,TI,TO,i1,i2]->b≠S:=λhb e=>hS (e ▸ hb);refine⟨k _ _ (n H9) M,O.upon λo e=>k _ o (n H9) e,U.upon λo e=>k _ o (n H9) e,?_⟩;rcases c with⟨b1,a,b,b2⟩|⟨d,f,g,j,b1,b2,b3,b4,l⟩
 .exact .inl ⟨k _ _ (n H9) b1,a,b,k _ _ (n H9) b2⟩
 .exact .inr ⟨d,f,g,j,k _ _ (n H9) b1,k _ _ b4 b2,b3,b4,k _ _ (n H9) l⟩
section
variable {prog:Program}{w:World}{A:Around}{E:QV}{s:Shared}{k1 k2:Bool}{z TI TO i1 i2 l1 l2 S:Addr}{j:Nat}{xs ys:AV}
def HB.ty (st:HB k1 k2 z TI TO i1 i2 l1 l2 S j h):∃o,h.get? z=some o/\o.cls=.type "zip":=by
 obtain⟨_,_,_,M⟩:=st;rcases M with⟨b1,_⟩|⟨O,f,U,a,b1,_⟩
 .exact⟨_,b1,rr⟩
 .exact⟨_,b1,rr⟩
def HC (Z:ZA k1 k2 z TI TO i1 i2 l1 l2)(hS:S<s.z)(st:HB k1 k2 z TI TO i1 i2 l1 l2 S j s.heap)(i:jY k1 s.heap l1 xs)(q2:jY k2 s.heap l2 ys)(hx:xs[j]? = some x)(hy:ys[j]? = some y)
  (q:∀h',HB k1 k2 z TI TO i1 i2 l1 l2 S (j+1) h'->IsPair h' s.z x y->(∀c o,c∉[z,TI,TO,i1,i2]->s.heap.get? c=some o->h'.get? c=some o)->Q (some (.ref s.z)) { s with heap:=h' }):
  wpAny (model prog w) A (pyNext (.ref z)) Q E s:=by
 have M:=st.ty;obtain⟨O,d,g,k⟩:=st;have lt:∀ {c o},s.heap.get? c=some o->s.z≠c:=λe=>ne_of_gt (vX e);obtain⟨r,t,_⟩:=d.ob;obtain⟨u,e2,_⟩:=g.ob;rcases k with⟨hz,a,b,h⟩|⟨l,f,m,n,hz,h0,n0,p,h⟩
 .refine wX (wpAny_attempt (wpAny_callSpecial?_slot M slot_zip_next (wpAny_call_entry slot_zip_next M entry_zip_next (yn Z.D Z.m1 Z.m2 hz O h d g i q2 hx hy λh' b1 b2 b3 b4 U v bk=>wY ?_) (args_zip_next_1 _))));refine q h' ⟨bk _ _ Z.D.tz Z.D.to Z.D.ta Z.D.tb O,b3,b4,.inr ⟨_,false,_,_,b1,U,?_,ne_of_gt hS,b2⟩⟩ U λc o hc e=>bk c o (λz=>hc (by simp[z])) (λz=>hc (by simp[z])) (λz=>hc (by simp[z])) (λz=>hc (by simp[z])) e;simp_all
 .refine wX (wpAny_attempt (wpAny_callSpecial?_slot M slot_zip_next (wpAny_call_entry slot_zip_next M entry_zip_next (EA Z.D Z.m1 Z.m2 hz h0 O d g i q2 hx hy λh' b1 b3 b4 U bk=>wY ?_) (args_zip_next_1 _))));exact q h' ⟨bk _ _ Z.D.tz Z.D.ta Z.D.tb O,b3,b4,.inr ⟨l,true,m,n,b1,bk _ _ (λz=>n0 (by simp[z])) (λz=>n0 (by simp[z])) (λz=>n0 (by simp[z])) h0,n0,p,bk _ _ Z.D.oz Z.D.oa Z.D.ob h⟩⟩ U λc o hc e=>bk c o (λz=>hc (by simp[z])) (λz=>hc (by simp[z])) (λz=>hc (by simp[z])) e
def HD (U:A.handled=none)(Z:ZA k1 k2 z TI TO i1 i2 l1 l2)(st:HB k1 k2 z TI TO i1 i2 l1 l2 S j s.heap)(d:jY k1 s.heap l1 xs)(q2:jY k2 s.heap l2 ys)(he:xs[j]? = none\/ys[j]? = none)
  (q:∀h',(∀c o,c∉[z,TI,TO,i1,i2]->s.heap.get? c=some o->h'.get? c=some o)->Q none { s with heap:=h' }):wpAny (model prog w) A (pyNext (.ref z)) Q E s:=by
 have M:=st.ty;obtain⟨g,h,i,l⟩:=st;unfold pyNext;rcases l with⟨hz,a,b,k⟩|⟨m,f,n,p,hz,h0,n0,r,k⟩
 .refine wX (wpAny_attempt (wpAny_callSpecial?_slot M slot_zip_next (wpAny_call_entry slot_zip_next M entry_zip_next (Ci U Z.D Z.m1 Z.m2 hz g k h i d q2 he λh' x hk hX=>?_) (args_zip_next_1 _))));obtain⟨o,O,co⟩:=hX;exact wX (wpAny_isInstance (b:=true) ⟨o,O,co⟩ isSubtype_stop (wY (q h' λc o hc e=>hk c o (λz=>hc (by simp[z])) (λz=>hc (by simp[z])) (λz=>hc (by simp[z])) (λz=>hc (by simp[z])) e)))
 .refine wX (wpAny_attempt (wpAny_callSpecial?_slot M slot_zip_next (wpAny_call_entry slot_zip_next M entry_zip_next (HA U Z.D Z.m1 Z.m2 hz h0 g h i d q2 he λh' x hk hX=>?_) (args_zip_next_1 _))));obtain⟨o,O,co⟩:=hX;exact wX (wpAny_isInstance (b:=true) ⟨o,O,co⟩ isSubtype_stop (wY (q h' λc o hc e=>hk c o (λz=>hc (by simp[z])) (λz=>hc (by simp[z])) (λz=>hc (by simp[z])) e)))
end
def HE (h:a≠b):upd (upd H a o) b u=upd (upd H b u) a o:=by
 funext c;unfold upd;lia
def j5 (h:H a=none):aH H (upd H a o):=λb u e=>by rw[a5 (aN e h)];exact e
def EB (h:(hV ds es)[i]? = some d):(hV ds es).take (i+1)=(hV ds es).take i++[d]:=by
 rw[take_add_one,h];rfl
def AZ:typeLookup (.type "zip") "__len__" = pure none:=Y9
def yM:typeLookup (.type "zip") "__length_hint__" = pure none:=Y9
section
variable {X:Cx}{af:AO}{σ:St}{B H0:Hp}{A:Around}{R:Result->Shared->Prop}{k1 k2:Bool}{z TI TO i1 i2 l1 l2 S:Addr}{us ws:LV}{ds es:LD}
def EC (Q:A.handled=none)(Z:ZA k1 k2 z TI TO i1 i2 l1 l2)(hS:S∉[z,TI,TO,i1,i2])(h1:ln k1 X.K B l1 us)(t:IsL X.K B us ds)(h2:ln k2 X.K B l2 ws)(C:IsL X.K B ws es)
  (hR:∀M N vs s',Inv X af σ (upd M S (.lst vs)) s'->M S=none->Ext B N H0 M->IsL X.K N vs (hV ds es)->R (.ok (.ret .none)) s'):
  ∀(k i:Nat)(s:Shared)(M N:Hp)(vs:LV),(hV ds es).length - i=k->i<=(hV ds es).length->Inv X af σ (upd M S (.lst vs)) s->M S=none->Ext B N H0 M->(∀b∈[z,TI,TO,i1,i2],lg X af (upd M S (.lst vs)) b) ->
   HB k1 k2 z TI TO i1 i2 l1 l2 S i s.heap->IsL X.K N vs ((hV ds es).take i) ->
   codeAny (model X.prog X.w) A (.builtin "list.extend.loop" ⟨[.ref S,.ref z,.none],[]⟩) R s:=by
 have n1:=t.length;have n2:=C.length;have nz:(hV ds es).length=min ds.length es.length:=by simp_all[hV]
 intro k;induction k with
 |zero=>
  intro i s M N vs hk hi I hc O fp st h;have An:i=(hV ds es).length:=N9
  have a:aH B (upd M S (.lst vs)):=(O.bn.trans O.nh).trans (j5 hc);obtain⟨its,j,l,D⟩:=(h1.same a).vals I;obtain⟨T,m,p2,W⟩:=(h2.same a).vals I;have Y:=j.length;have e2:=m.length;refine codeAny_builtin PySem.F.entry_extend_loop ?_;rw[Around.under_plainId plain_extend_loop _];show wpAny _ A.in1 (pyNext (.ref z)>>=_) _ _ s;refine wX (HD (A:=A.in1) Q Z st l p2 ?_ λh' U=>?_)
  .by_cases q:ds.length<=es.length
   .left;simp;lia
   .right;simp;lia
  .refine wY (hR M N vs _ (jZ (t':=s.toks) I fp U) hc O ?_);grind
 |succ k ih=>
  intro i s M N vs hk hi I hc O fp st h;have mT:i<(hV ds es).length:=N9
  have a:aH B (upd M S (.lst vs)):=(O.bn.trans O.nh).trans (j5 hc);obtain⟨its,j,l,D⟩:=(h1.same a).vals I;obtain⟨T,m,p2,W⟩:=(h2.same a).vals I;have d1:i<ds.length:=N9
  have d2:i<es.length:=N9
  obtain⟨x,hx,ix⟩:=t.get (vU d1);obtain⟨y,hy,iy⟩:=C.get (vU d2);obtain⟨u,hu,ru⟩:=j.get hx;obtain⟨v,hv,rv⟩:=m.get hy;have el:(hV ds es)[i]? = some (.tup [ds[i],es[i]]):=by
   simp_all[hV]
  obtain⟨zl,KU,c,n,ev0,E⟩:=I.lstM au;have G:S<s.z:=vX E;refine codeAny_builtin PySem.F.entry_extend_loop ?_;show wpAny _ A.in1 (pyNext (.ref z)>>=_) _ _ s;refine wX (HC (A:=A.in1) Z G st l p2 (by simpa using hu) (by simpa using hv) λh' Lo hp U=>?_);have H:upd M S (.lst vs) s.z=none:=I.hok.fresh (vT _);have p:s.z≠S:=ne_of_gt G;have d:M s.z=none:=by rw[a5 p]at H;exact H
  have new:bf X.prog X.w (upd (upd M S (.lst vs)) s.z (.tup [x,y])) h' s.z (.tup [x,y]):=⟨by show 2<=sizeLine;decide,[u,v],.cons ru (.cons rv .nil),⟨_,hp,rr,_,rr⟩⟩;have J:=Cj (s:=s) (t':=s.toks) I fp U (vT _) new;rw[HE p.symm]at J;have g:=U S _ hS E;have r:Ext B (upd N s.z (.tup [x,y])) H0 (upd M s.z (.tup [x,y])):=O.trans (Ext.laid O.nh d);have vl:vs.length=i:=by rw[h.length,length_take];lia
  have zs:=zl;refine wX ?_;have lz:(vs++[V.ref s.z]).length<=sizeLine:=by
   rw[uZ,vl];have a1:=D;show i+1<=sizeLine;lia
  have L:=J.lset (t':=s.toks) (ys:=vs++[.ref s.z]) (its':=KU++[.ref s.z]) (f:=(·.push (Value.ref s.z))) au g H9 (n.append (.cons (show aF (.ref _) (.ref _)from rr) .nil)) lz;rw[lN]at L;refine wpAny_updateSeq g rr (wY ⟨plainId_quiet plain_extend_loop _,ih (i+1) _ _ _ (vs++[.ref s.z]) N9 mT L (by rw[a5 p.symm];exact hc) r (λb hb=>?_) (Lo.keep hS λb o hb e=>(Heap.get?_update_other _ _ (Ne.symm hb)).trans e) ?_⟩) s9 s9
  .obtain⟨P,f1,f2,f3,f4,f5⟩:=fp b hb;refine⟨?_,f1,f2,f3,f4,f5⟩;have nb:b≠S:=λe=>hS (e ▸ hb);rw[a5 nb]at P |-;have nT:b≠s.z:=by
    obtain⟨hI,t1,t2,a4⟩:=st;obtain⟨o1,Y,_⟩:=t1.ob;obtain⟨o2,e2,_⟩:=t2.ob;have lt:∀ {c o},s.heap.get? c=some o->c≠s.z:=λe=>vS (vX e);grind
   rw[a5 nT];exact P
  .rw[EB el];exact(h.mono (Ext.laid O.nh d).bn).append (.cons (.tup (gF.of au) (.cons (ix.mono r.bn) (.cons (iy.mono r.bn) .nil))) .nil)
end
section
variable {X:Cx}{af:AO}{σ:St}{B H:Hp}{s:Shared}{k1 k2:Bool}{z TI TO i1 i2 l1 l2:Addr}{us ws:LV}{ds es:LD}
def t9 (y:X.A.handled=none)(I:Inv X af σ H s)(Z:ZA k1 k2 z TI TO i1 i2 l1 l2)(fp:∀b∈[z,TI,TO,i1,i2],lg X af H b)
  (C:IsPair s.heap TI (.ref i1) (.ref i2)) (p:jX k1 s.heap i1 l1 0) (r:jX k2 s.heap i2 l2 0) (hz:IsZip s.heap z TI TO .none) (D:IsPair s.heap TO a b)
  (E:aH B H) (h1:ln k1 X.K B l1 us) (G:IsL X.K B us ds) (h2:ln k2 X.K B l2 ws) (J:IsL X.K B ws es)
  (q:∀(S:Addr)(d N:Hp)(vs:LV),d S=none->Ext B N H d->IsL X.K N vs (hV ds es)->Q (.ref S) (upd d S (.lst vs))):
  wq X (call (.type "list") [.ref z]) (EP X af σ Q) X.xe s:=by
 have lt:∀ {c o},s.heap.get? c=some o->s.z≠c:=λe=>ne_of_gt (vX e);have M:s.z∉[z,TI,TO,i1,i2]:=by
  obtain⟨o1,e1,_⟩:=p.ob;obtain⟨o2,e2,_⟩:=r.ob;simp_all
 have t:s.z≠z:=lt hz;have j:HB k1 k2 z TI TO i1 i2 l1 l2 s.z 0 s.heap:=⟨C,p,r,.inl ⟨hz,a,b,D⟩⟩;have hc:H s.z=none:=I.fresh;refine callType_codes (Q₁:=λobj U=>obj=.ref s.z/\U={ s with heap:=s.heap.push { cls:=.type "list",data:=.seq #[] } }) called_list (PySem.F.typeCall_list_1 _) PySem.F.entry_list_init
  (code_list_new _ ⟨rr,rr⟩) λobj U g=>?_
 obtain⟨rfl,rfl⟩:=g;have hS:(s.heap.push { cls:=.type "list",data:=.seq #[] }).get? s.z=some _:=vY _ rr;have L:=I.lnew (t':=s.toks) (its:=[]) .nil (uN _);have k:HB k1 k2 z TI TO i1 i2 l1 l2 s.z 0 (s.heap.push { cls:=.type "list",data:=.seq #[] }):=j.keep M λb o _ e=>vZ _ e;refine⟨⟨_,hS,rr⟩,PySem.F.args_list_init_2 _ _,?_⟩;refine wX ?_;unfold Builtin.List.listItems;refine wX (wpAny_seqItems hS rr (wY ?_));refine wX (wpAny_updateSeq hS rr ?_);have h:=L.lset (t':=s.toks) (ys:=[]) (its':=[]) (f:=λ_=>#[]) au hS rr .nil (uN _);have O:=k.keep (h':=(s.heap.push { cls:=.type "list",data:=.seq #[] }).update s.z (Obj.mapSeq λ_=>(#[]:AV))) M λb o hb e=>(Heap.get?_update_other _ _ (Ne.symm hb)).trans e;rw[lN]at h;generalize l:(s.heap.push { cls:=.type "list",data:=.seq #[] }).update s.z (Obj.mapSeq λ_=>(#[]:AV))=g2 at h O |-;obtain⟨_,P,c2,R,_,u⟩:=h.lstM au;have e2:=R.zero;subst e2;refine wX (wpAny_letGo ?_);unfold Builtin.List.listExtendWith;refine wX (wpAny_typeOf (T:="zip") O.ty ?_);have m:Builtin.List.listSameRef (.ref s.z) (.ref z)=false:=by simp[Builtin.List.listSameRef,t]
 have V:(Value.type "zip" == Value.type "list")=false:=O9
 have W:(Value.type "zip" == Value.type "tuple")=false:=O9
 simp only[m,V,W,Bool.or_false,uV,if_false];have Y:IsZip g2 z TI TO .none:=by
  rw[<-l];exact(Heap.get?_update_other _ _ t).trans (vZ _ hz)
 refine wX (wpAny_pyIter_zip Y ?_);refine wX (wpAny_holding ?_);unfold Builtin.List.listLengthHint;refine wX (wpAny_specialOf (T:="zip") O.ty AZ ?_);refine wX (wpAny_specialOf (T:="zip") O.ty yM ?_);refine wY ?_;refine wX (wpAny_rule ?_);refine wX ?_;refine wX (wpAny_updateSeq u rr ?_);have i:=h.lset (t':=s.toks) (ys:=[.non]) (its':=[.none]) (f:=(·.push .none)) au u rr (.cons (show aF .non .none from rr) .nil) (by show 1<=sizeLine;decide);have v:=O.keep (h':=g2.update s.z (Obj.mapSeq (·.push .none))) M λb o hb e=>(Heap.get?_update_other _ _ (Ne.symm hb)).trans e;rw[lN]at i;generalize hg3:g2.update s.z (Obj.mapSeq (·.push .none))=g3 at i v |-;obtain⟨_,acX,c3,v3,_,w⟩:=i.lstM au;obtain⟨n3,rfl,r3⟩:=v3.one;cases r3
 refine wpAny_updateSeq (hz:=by simp<;>decide) w rr ?_
 have x:=i.lset (t':=s.toks) (ys:=[]) (its':=[]) (f:=(·.pop)) au w rr .nil (uN _);have n:=v.keep (h':=g3.update s.z (Obj.mapSeq (·.pop))) M λb o hb e=>(Heap.get?_update_other _ _ (Ne.symm hb)).trans e;rw[lN]at x;refine wY ⟨plainId_quiet plain_extend_loop _,EC (A:=X.A.in1) (B:=B) (H0:=H) y Z M h1 G h2 J (λd N vs s' I' Op xt il=>?_) _ 0 _ H B [] rr (uN _) x hc (Ext.refl E) (λb hb=>?_) n .nil⟩
 .exact⟨rr,.ref s.z,_,I',rr,q _ d N vs Op xt il⟩
 .obtain⟨f0,f1⟩:=fp b hb;refine⟨?_,f1⟩;grind[a5]
end
@[simp] def ZN (fa M:FE):FE:=λρ=>(GK fa M ρ).map λds=>(.lst ds,true)
section
variable {X:Cx}{a b:Expr}{pos p pos2 p2:Pos}
def Ba (y:X.calm=true)(hl:X.mg "list" = none)(hm:X.mg "zip" = none)(ha:JE X a fa)(hb:JE X b fb)(z:Gl X "list")(A:Gl X "zip")
  (hs:starEach [a,b] X.env=[(false,eval a X.env),(false,eval b X.env)]) (O:starEach [b] X.env=[(false,eval b X.env)])
  (t:starEach [.Call (.Name "zip" p2) [a,b] [] pos2] X.env=[(false,eval (.Call (.Name "zip" p2) [a,b] [] pos2) X.env)]):
  JE X (.Call (.Name "list" p) [.Call (.Name "zip" p2) [a,b] [] pos2] [] pos) (ZN fa fb):=by
 intro af s σ H Q I q;obtain⟨B,ρ,d,bb,C,r,M,dI⟩:=q;obtain⟨zs,g,e2⟩:=oY M;cases e2
 clear M;have M:=g;clear g;obtain⟨u,ex,M⟩:=oX M;obtain⟨v,E,M⟩:=oX M;obtain⟨xs,F,M⟩:=oX M;obtain⟨ys,G,M⟩:=oY M;subst M;refine wpAny_Call_Name_kw (fz I z hl wl ?_ O9 O9);refine PyProof.Rows.callWith_type1 ?_ (by rw[t];rfl) rr;rw[t];refine Calls.spliced_cons ?_;refine wpAny_Call_Name_kw (fz I A hm OL ?_ O9 O9);refine PyProof.Rows.callWith_type1 (bI (gG ha (gG hb ng O) (by rw[hs,O]) pos2 af s σ H (λvs i=>∃N1,Ext B N1 H i/\IsL X.K N1 vs [u.1,v.1]) I ⟨B,ρ,[u.1,v.1],C,r,by simp[ai,av,ex,E],λvs i N1 c i1=>⟨N1,c,i1⟩⟩) λus s1 ⟨vs,i,f,J,N1,c,L⟩=>?_) (by rw[hs,O]) (by rw[O];rfl);cases L with
 |cons P k=>
  cases k with
  |cons k R=>
   cases R
   obtain⟨k1,l1,T,rfl,h1,m1⟩:=yo P F;obtain⟨k2,l2,V,rfl,h2,m2⟩:=yo k G;obtain⟨u1,u2,rfl,W,Y⟩:=J.two;cases W
   cases Y
   obtain⟨its,v1,w,z1⟩:=(h1.same c.nh).vals f;obtain⟨DG,v2,p2,z2⟩:=(h2.same c.nh).vals f;have FF:=w.lt;have U:=p2.lt;refine Ch w p2 λh' Z c2 c3 c4 c5 ck=>?_;have D:ZApart (s1.z+4) (s1.z+2) (s1.z+3) s1.z (s1.z+1):=by
    constructor<;>(simp)
   have e:∀ {l:Addr}(n:Nat),l<s1.z->l≠s1.z+n:=λn hl=>vS (vQ hl (Nat.le_add_right _ n));refine Calls.spliced_nil ?_;refine t9 (k1:=k1) (k2:=k2) (B:=N1) (H:=i) (f.ok.hd y) (f.kept (t':=s1.toks) ck) ⟨D,⟨e 4 FF,e 3 FF,e 0 FF⟩,⟨e 4 U,e 3 U,e 0 U,e 1 U⟩⟩ (λb hb=>?_) c2 c4 c5 Z c3 c.nh h1 m1 h2 m2 λS Hc N vs hS j m=>?_
   .have x:s1.z<=b:=by
     grind
    exact f.fpOk x (f.hok.fresh x)
   .have x3:=(c.trans j).trans (Ext.laid (o:=.lst vs) j.nh hS);have h:=m.mono (Ext.laid (o:=.lst vs) j.nh hS).bn;exact dI _ _ _ x3 (.lst (fD.of au) h) λ_=>⟨_,_,_,rr,rr,(c.trans j).hh.free hS,au,h⟩
end
end DL
namespace DL
open PySem PySem.Spec PyProof.Rows
def wG:typeLookup (.type "list") "keys" = pure none:=Y9
def ED
  (hx:s.heap.get? a=some { cls:=.type "list",dict:=none,data:=.seq xs k,slots:=sl }) (U:A.handled=none)
  (h:∀h' tk,(∀b o,s.heap.get? b=some o->h'.get? b=some o)->Q none { s with heap:=h',toks:=tk }):
  wpAny (model prog w) A (getAttr? (.ref a) "keys") Q E s:=by
 obtain⟨hp,g,d,tk,os⟩:=s;have O:∀M,(⟨hp,g,d,M,os⟩:Shared).TypeIs (.ref a) "list":=λ_=>⟨_,hx,rr⟩;have f1:=sub_AttributeError;have c:=slot_list_getattribute.lookup;have f:=slot_list_getattribute.bind (.ref a);have i:=am_list_getattr_none;unfold getAttr? getAttrBy? getAttrBy;repeat (any_goals (first|assumption|exact O _|((with_reducible show wpAny _ _ (call (Value.builtin "list.__getattribute__") _ _) _ _ _);refine call_meets slot_list_getattribute (O _) am_entry_list_getattribute (PySem.F.args_list_getattribute_2 _ _) (meets_getattribute_miss_list a xs k sl "keys" _ wG O9 O9) ⟨hx,U,λh' M e hx'=>?_⟩)|wp_step))
 obtain⟨t',u',he⟩:=hx'.there;show wpAny _ _ (getattributeRaised _ _ _ _ _ _ _) _ _ _;unfold getattributeRaised;repeat (any_goals (first|assumption|wp_step))
 exact h _ _ hx'.of.keeps
end DL
namespace DL
open PySem PySem.Spec PyProof.Rows L2
def eG:LD->Option (List (cZ×D))
 |[]=>some []
 |.tup [k,v]::r=>(ji k).bind λM=>(eG r).map λl=>(M,v)::l
 |_=>none
noncomputable def qF (a:LK×LD)(p:cZ×D):LK×LD:=(dh a.1 p.1,cM a.1 a.2 p.1 p.2)
noncomputable def bD (l:List (cZ×D)):LK×LD:=l.foldl qF ([],[])
def qG (l:List (cZ×D))(p:cZ×D):bD (l++[p])=qF (bD l) p:=by simp_all[bD]
def xy1 {d:D}{r:LD}{l:List (cZ×D)}(h:eG (d::r)=some l):∃k v,d=.tup [k,v]:=by
 cases d with
 |tup ds=>rcases ds with _|⟨a,_|⟨b,_|⟨c,ds⟩⟩⟩<;>first|exact⟨_,_,rfl⟩|cases h
 |_=>cases h
theorem qH:∀ {ds:LD}{l:List (cZ×D)},eG ds=some l->l.length=ds.length
 |[],l,h=>by cases h;rfl
 |d::r,l,h=>by
  obtain⟨k,v,rfl⟩:=xy1 h;obtain⟨O,_,h⟩:=oX h;obtain⟨U,h1,rfl⟩:=oY h;simp[qH h1]
theorem qI:∀ {ds:LD}{l:List (cZ×D)}{i:Nat}{d:D},eG ds=some l->ds[i]? = some d->∃k v M,d=.tup [k,v]/\ji k=some M/\l[i]? = some (M,v)
 |[],l,i,d,_,h=>by simp at h
 |d0::r,l,i,d,h,hi=>by
  obtain⟨k,v,rfl⟩:=xy1 h;obtain⟨M,h2,h⟩:=oX h;obtain⟨U,h1,rfl⟩:=oY h;cases i with
  |zero=>simp at hi;subst hi;exact⟨k,v,M,rr,h2,rr⟩
  |succ i=>simp only[List.getElem?_cons_succ]at hi |-;exact qI h1 hi
def HF (l:List (cZ×D)):∀a:LK×LD,a.1.length=a.2.length->(l.foldl qF a).1.length=(l.foldl qF a).2.length/\(l.foldl qF a).1.length<=a.1.length+l.length:=by
 induction l with
 |nil=>simp
 |cons p l M=>
  intro a h;have h1:(qF a p).1.length<=a.1.length+1:=by
   show(dh _ _).length<=_;unfold dh;split<;>simp
  have:=M (qF a p) (mq h _ _);rw[foldl_cons,vE];exact⟨this.1,N9⟩
theorem EE (l:List (cZ×D)):(bD l).1.length=(bD l).2.length/\(bD l).1.length<=l.length:=by
 have:=HF l ([],[]) rr;exact⟨this.1,vR this.2 H9⟩
def uo:entryFor table "dict.update.loop" = some Builtin.«dict.update.loop»:=entryFor_of_tree N8
def kh:plainId "dict.update.loop" = true:=I9
section
variable {X:Cx}{af:AO}{σ:St}{B H0:Hp}{A:Around}{R:Result->Shared->Prop}{it l d:Addr}{us:LV}{ds:LD}{jj:List (cZ×D)}
def Bb (Y:A.handled=none)(nl:l≠it)(nd:d≠it)(hl:fD X.K B l us)(G:IsL X.K B us ds)(hp:eG ds=some jj)
  (hR:∀M N vs ob s',Inv X af σ (upd M d (.dK ((bD jj).1.zip vs) ob)) s'->M d=none->Ext B N H0 M->(bD jj).1.length=vs.length->IsL X.K N vs (bD jj).2->R (.ok (.ret .none)) s'):
  ∀(k i:Nat)(tk:Nat)(s:Shared)(M N:Hp)(vs:LV)(ob:Obj),ds.length - i=k->i<=ds.length->Inv X af σ (upd M d (.dK ((bD (jj.take i)).1.zip vs) ob)) s->M d=none->Ext B N H0 M->lg X af (upd M d (.dK ((bD (jj.take i)).1.zip vs) ob)) it ->
   s.heap.IsListIter it l i->(bD (jj.take i)).1.length=vs.length->IsL X.K N vs (bD (jj.take i)).2 ->
   codeAny (model X.prog X.w) A (.builtin "dict.update.loop" ⟨[.ref d,.ref it,.int i tk,.none],[]⟩) R s:=by
 have n1:=G.length;have n2:=qH hp;intro k;induction k with
 |zero=>
  intro i tk s M N vs ob hk hi I hc O fp st hz hv;have Z:i=ds.length:=N9
  have m:aH B (upd M d (.dK ((bD (jj.take i)).1.zip vs) ob)):=(O.bn.trans O.nh).trans (j5 hc);obtain⟨its,n,p,z1⟩:=I.list (m.seq hl);have e1:=n.length;refine codeAny_builtin uo ?_;rw[Around.under_plainId kh _];refine wX (wpAny_pyNext_list_end (A:=A.in1) Y st p.isList s9 λh' Lr=>?_);refine wX (wY (wY ?_));have f:=jZ (t':=s.toks) (h':=h') (ch:=[it]) I (λb hb=>by rw[uT hb];exact fp) λb o hb e=>Lr b o (λq=>hb (by simp[q])) e;rw[Z,<-n2,take_length]at f hz hv;exact hR M N vs ob _ f hc O hz hv
 |succ k ih=>
  intro i tk s M N vs ob hk hi I hc O fp st hz hv;have U:i<ds.length:=N9
  have m:aH B (upd M d (.dK ((bD (jj.take i)).1.zip vs) ob)):=(O.bn.trans O.nh).trans (j5 hc);obtain⟨its,n,p,z1⟩:=I.list (m.seq hl);obtain⟨kd,H,g,ed,ek,el⟩:=qI hp (vU U);obtain⟨x,hx,J⟩:=G.get (vU U);rw[ed]at J;cases J with
  |@tup T xs _ hT t=>
   cases t with
   |cons ik r=>
    cases r with
    |cons iv r=>
     cases r
     rename_i xk L;have v:=oC ik ek;subst v;obtain⟨u,hu,ru⟩:=n.get hx;cases (show u=Value.ref T from ru)
     refine codeAny_builtin uo ?_;rw[Around.under_plainId kh _];refine wX (wpAny_pyNext_list_item (A:=A.in1) st p.isList (x:=.ref T) (by simpa using hu) λh' Lo hs=>?_);have f:=jZ (t':=s.toks) (h':=h') (ch:=[it]) I (λb hb=>by rw[uT hb];exact fp) λb o hb e=>hs.extBut b o (λq=>hb (by simp[q])) e;obtain⟨ps,r2,p2,z2⟩:=f.tuple (aV m hT);obtain⟨uk,uv,rfl,rk,rv⟩:=r2.two;have y:Shared.TypeIs { s with heap:=h' } (.ref T) "tuple":=by obtain⟨o,e,c,_⟩:=p2;exact⟨o,e,c⟩
     dsimp only;refine wX (wpAny_holding (wX (wpAny_tryCatch ?_)));unfold Builtin.Dict.pairItems;refine wX (wpAny_typeOf y ?_);obtain⟨oT,eT,cT,nT,dT⟩:=p2;rw[if_pos O9];refine wX (wpAny_seqItems eT dT (wY ?_));obtain⟨zz,To,z,rel,dd⟩:=o3 f.hok (a:=d) au;have C:z.length<=sizeLine:=by rw[<-rel.length];exact zz
     have nk:((bD (jj.take i)).1.zip vs).length<sizeLine:=by
      grind[EE]
     refine wpAny_holding (wpAny_dictSet_pairs (hsz:=C) (pR rk) dd λh2 h P=>?_);have Ag:(mW ((bD (jj.take i)).1.zip vs) g L).length<=sizeLine:=by grind[jq]
     obtain⟨E,Q⟩:∃q,h2.get? d=some q:=let ⟨q,_,_,hq,_⟩:=h;⟨q,hq⟩;have S:=vx (t':=s.toks+1) f (a:=d) (by rw[au];exact True.intro) P ⟨_,Q⟩ (Gh Ag To (rel.put g rv) h Q);rw[lN,pA hz]at S;have V:jj.take (i+1)=jj.take i++[(g,H)]:=by rw[take_add_one,el];rfl
     have j:(bD (jj.take (i+1))).1=dh (bD (jj.take i)).1 g:=by rw[V,qG];rfl
     have F:(bD (jj.take (i+1))).2=cM (bD (jj.take i)).1 (bD (jj.take i)).2 g H:=by rw[V,qG];rfl
     refine wY ⟨plainId_quiet kh _,?_⟩;refine ih (i+1) 0 _ M N (cM (bD (jj.take i)).1 vs g L) E N9 U (by rw[j];exact S) hc O ?_ ?_ ?_ ?_
     .obtain⟨W,f1⟩:=fp;refine⟨?_,f1⟩;rw[a5 nd.symm]at W |-;exact W
     .exact Lo.at λo e=>(P.2 it nd.symm).trans e
     .rw[j];exact mq hz _ _
     .rw[F];exact hv.put (iv.mono O.bn)
end
@[simp] def ki:LD->OB
 |[.lst ds]=>(eG ds).map λM=>(.dk (bD M).1 (bD M).2,false)
 |_=>none
def Rv:bootBuiltins "dict" = some (.type "dict"):=I9
section
variable {X:Cx}
def Rw (x:X.calm=true):bg X (.type "dict") (xA X.K ki):=by
 intro af s σ H xs us Q I r h;obtain⟨B,y,d0,bb,j,z,U,q⟩:=h;cases z with
 |nil=>simp[ki]at U
 |cons i1 i2=>
  cases i2 with
  |cons _ _=>cases i1<;>simp[ki]at U
  |nil=>
   cases i1<;>try (simp[ki]at U;done)
   rename_i l ws ds hl C;simp only[ki]at U;obtain⟨k,hp,U⟩:=oY U;cases U
   obtain⟨u,rfl,D⟩:=eC r;cases D
   have m:X.A.handled=none:=I.ok.hd x;refine callType_codes (Q₁:=λobj O=>obj=.ref s.z/\O={ s with heap:=s.heap.push _ }) PySem.F.kt_called_dict (PySem.F.kt_typeCall_dict_1 _) PySem.F.entry_dict_init (kt_code_dict_new _ ⟨rr,rr⟩) ?_;rintro obj O ⟨rfl,rfl⟩;have n:=I.laid (t':=s.toks) (λb o e=>vZ _ e) (vT _) (xN s.heap I.big);have a:H s.z=none:=I.fresh;have p:Shared.TypeIs { s with heap:=s.heap.push { cls:=.type "dict",data:=.dict #[] } } (.ref s.z) "dict":=⟨_,vY _ rr,rr⟩;refine⟨p,PySem.F.args_dict_init_2 _ _,?_⟩;unfold Builtin.«dict.__init__»;refine wX ?_;unfold Builtin.Dict.selfAndRest;refine wX (wpAny_notOrdered_dict p ?_);refine wY ?_;show wpAny _ _ (Builtin.Dict.updateFrom "dict.__init__" s.z (.ref l) [] .none) _ _ _;unfold Builtin.Dict.updateFrom;have E:aH B (upd H s.z (.dK [] { cls:=.type "dict",data:=.dict #[] })):=j.trans (j5 a);obtain⟨its,S,t,T⟩:=n.list (E.seq hl);have pl:=t.isList;obtain⟨v,G,M,cl,c,dl⟩:=t;have f:Shared.TypeIs _ (.ref l) "list":=⟨v,M,cl⟩;refine wX (wpAny_typeOf f ?_);rw[if_pos O9];obtain⟨oc,od,V,os⟩:=v;simp only at cl c dl;subst cl c dl;refine wX (ED M (by exact m) λh' tk hk=>?_);dsimp only[Option.isNone_none];rw[if_pos rr];have g:=n.kept (t':=tk) hk;refine wX (wpAny_rule ?_);refine wX (wpAny_pyIter_list (items:=its.toArray) ⟨_,hk _ _ M,rr,G,rr⟩ ?_);have J:Inv X af σ _ { s with heap:=h'.push { cls:=.type "list_iterator",data:=.fields #[.ref l,.int 0 0] },toks:=tk }:=g.kept (t':=tk) λb o e=>vZ _ e;have ld:s.z<h'.objs.size:=vX (hk _ _ (vY _ rr));have L:l<h'.objs.size:=vX (hk _ _ M);refine wY ⟨plainId_quiet kh _,Bb (A:=X.A.in1) (B:=B) (H0:=H) (l:=l) (d:=s.z) (it:=h'.objs.size) m (vS L) (vS ld) hl C hp (λW N vs ob s' P w i hz hv=>?_) _ 0 0 _ H B [] _ rr (uN _) J a (Ext.refl j) (g.fpOk (vT _) (g.hok.fresh (vT _))) ⟨_,vY _ rr,rr,rr⟩ rr .nil⟩;refine⟨rr,.ref s.z,_,P,rr,?_⟩;have R:=i.trans (Ext.laid (o:=.dK ((bD k).1.zip vs) ob) i.nh w);exact q _ _ _ R (.dk au hz (hv.mono (Ext.laid (o:=.dK ((bD k).1.zip vs) ob) i.nh w).bn)) H9
end
def OT (h:n+40<cLine):n+1<cLine:=N9
def iP:LD->Option LK
 |[]=>some []
 |d::ds=>(ji d).bind λk=>(iP ds).map (k :: ·)
theorem Bc {K:Frag}{B:Hp}:∀ {vs:LV}{ds:LD}{ks:LK},IsL K B vs ds->iP ds=some ks->vs=ks.map kV
 |_,_,ks,.nil,e=>by simp[iP]at e;subst e;rfl
 |_,_,ks,.cons i is,e=>by
  obtain⟨k,h1,e⟩:=oX e;obtain⟨r,h2,rfl⟩:=oY e;rw[oC i h1,Bc is h2];rfl
@[simp] def HG (fo:FE)(fa:FA):FE:=λρ=>(fo ρ).bind λx=>(fa ρ).bind λds=>match x.1 with
 |.dt M vs=>if ds.length<=sizeLine then (iP ds).map λk=>((bC M vs k).getD .non,false)else none
 |_=>none
section
variable {X:Cx}{o:Expr}{es:QD}{pos:Pos}
def HH {cm b8 O:Pos}{U:Nat}{fo:FE}{fa:FA}(hu:X.A.units+1<cLine)(ho:JE X o fo)(ha:JA X es fa)(m:M1 X o "get" cm (.Tuple es U O) b8):JE X (.Call (.Attribute o "get" cm) [.Tuple es U O] [] b8) (HG fo fa):=by
 refine PE.to (xO hu ho (Aw ha) m) λσ H Q q=>?_;obtain⟨B,ρ,d,bb,i,r,M,q⟩:=q;obtain⟨x,ex,M⟩:=oX M;obtain⟨ds,j,M⟩:=oX M;refine⟨B,ρ,x.1,x.2,i,r,ex,λv s N1 U i1 t=>?_⟩;obtain⟨xd,u⟩:=x;cases i1 with
 |@dt a ks vs w h hl hs=>
  simp only at M;split at M
  .rename_i hz;obtain⟨k,hk,M⟩:=oY M;cases M
   refine⟨a,rr,.inr ⟨_,.inl (U.nh _ _ h)⟩,N1,ρ,ds,U.nh,r.mono U.bn,j,λus H2 N2 c i2=>?_⟩;have hv:=Bc i2 hk;have e:us.length<=sizeLine:=by rw[i2.length];exact hz
   refine⟨e,λp hp=>?_⟩;have b:=Ext.laid (o:=.tup us) c.nh hp;have f:=c.bn _ _ h;refine⟨jl _ k,.inr ⟨_,k,p,.inl (b.nh _ _ (b.bn _ _ f)),rr,by rw[au,hv],rr⟩,?_⟩;have l:=(hs.mono c.bn).mono b.bn;rcases qE k hl l with⟨v,d',g,e2,n⟩|⟨g,e2⟩
   .rw[g];rw[e2]at q;exact(q.into ((U.trans c).trans b)).one b.nh n
   .rw[g];rw[e2]at q;exact(q.into ((U.trans c).trans b)).one b.nh .non
  .cases M
 |_=>simp at M
end
section
variable {K:Frag}{E:Ends}{σ:St}{H:Hp}
def uq (i:Nat)(O:FA)(U:FE):FS:=λρ=>match ρ[i]? with
 |some (some (.dt ks vs,true))=>(U ρ).bind λv=>(O ρ).bind λkd=>(iP kd).bind λM=>if aO v.1=true/\ks.length<sizeLine/\kd.length<=sizeLine then some (.nx (ρ.set i (some (.dt (dh ks M) (cM ks vs M v.1),true))))else none
 |_=>none
def HI {i:Nat}{O:FA}{U:FE}(q:mR K (uq i O U) E σ H):BS (FK i) (Ub (SR K O)) (tD K U) E σ H:=by
 obtain⟨B0,H0,ρ,r,⟨N,s⟩,e,p⟩:=q;unfold uq at e;split at e
 .rename_i ks ds ei;obtain⟨v,ev,e⟩:=oX e;obtain⟨kd,ek,e⟩:=oX e;obtain⟨d,hk,e⟩:=oX e;split at e
  .rename_i hx;cases e
   refine⟨N,ρ,v.1,v.2,s.ext.nh,s.rep,ev,λg h N1 f i1 _=>?_⟩;have s1:=s.grow f;obtain⟨a,o,h1,h2,h3,h4⟩:=s1.ow i _ ei;refine⟨.ref a,h1,N1,ρ,kd,s1.ext.nh,s1.rep,ek,λus H2 N2 b i2=>?_⟩;have s2:=s1.grow b;have hv:=Bc i2 hk;refine⟨by rw[i2.length];exact hx.2.2,λpp hp=>?_⟩;have c:=Ext.laid (o:=.tup us) s2.ext.nh hp;have M:=s2.grow c;obtain⟨j,o',k1,k2,k3,k4⟩:=M.ow i _ ei;rw[h1]at k1;cases k1
   cases k4 with
   |@dt ks vs ds hl h5=>
    refine⟨a,rr,.inr ⟨_,d,pp,M.ext.nh _ _ k2,rr,by rw[au,hv],?_,?_⟩⟩
    .rw[length_zip];lia
    .rw[pA hl];exact p σ _ ⟨_,M.writeB ei h1 (.dt (mq hl _ _) (h5.put (M.flat ((i1.mono b.bn).mono c.bn) hx.1)))⟩
  simp_all
 simp_all
end
section
variable {X:Cx}{pos:Pos}{e:Expr}{es:QD}
def MU (hu:X.A.units+1<cLine)(hv:JE X e fv)(hk:JA X es fk)(U:X.N[i]? = some y)(M:Le X.env.scope y)(hd:(y == ("__debug__" : Str))=false)
  (O:(y == ("__classdict__" : Str))=false) (hs:swapsWith e (some (.Subscript (.Name y py) (.Tuple es x1 Sr) pt)) pos.line X.env=pure false):JS X (.Assign [.Subscript (.Name y py) (.Tuple es x1 Sr) pt] e pos) (uq i fk fv):=
 PS.to (vy hu (jo U M hd O) (Aw hk) hv hs) λ_ _ _ q=>HI q
end
end DL
namespace L2
open PySem PySem.Spec PyProof.Rows
noncomputable def XX (a:Addr)(a8:List (cZ×V))(ob:Obj):It:=⟨λi H=>H a=some (.dK a8 ob)/\i<a8.length,λi H x H'=>H'=H/\∃k v,a8[i]? = some (k,v)/\x=kV k,λi H=>H a=some (.dK a8 ob)/\a8.length<=i⟩
noncomputable def XY (a:Addr)(a8:List (cZ×V))(ob:Obj):It:=⟨λi H=>H a=some (.dK a8 ob)/\i<a8.length,λi H x H'=>H'=H/\∃k,a8[i]? = some (k,x),λi H=>H a=some (.dK a8 ob)/\a8.length<=i⟩
def KV.get {a8:List (cZ×V)}{vs:List (cZ×Value)}(r:KV a8 vs){i:Nat}{k:cZ}{x:V}(h:a8[i]? = some (k,x)):∃u,vs[i]? = some (k,u)/\aF x u:=by
 induction r generalizing i with
 |nil=>simp at h
 |@cons p q ps U hq t M=>
  cases i with
  |zero=>
   cases (show p=(k,x)from vK h)
   obtain⟨O,q2⟩:=q;exact⟨q2,by rw[show k=O from hq.1];rfl,hq.2⟩
  |succ i=>exact M h
def OU (h:(cn P w).is k u=true):aF (kV k) u:=by
 cases k with
 |inl i=>exact Value.isInt_shape h
 |inr z=>exact Value.isStrOf_shape h
section
variable {P:Program}{w:World}{H:Hp}{h:Heap}{a:Addr}
def kQ (ok:kI P w H h)(e:H a=some (.dK a8 ob))(hd:ob.data=.dict es U):∃vs,KV a8 vs/\h.DictAt (cn P w) a vs U:=by
 obtain⟨_,_,vs,r,o,M,O,h1,h2,h3,h4⟩:=o3 ok e;rw[A4 ok e]at h1;cases h1
 rw[hd]at h3;cases h3
 exact⟨vs,r,ob,es,A4 ok e,h2,hd,h4⟩
def pB (ok:kI P w H h)(e:H a=some (.dK a8 ob)):∃es M,ob.data=.dict es M:=by
 obtain⟨_,_,vs,r,o,O,U,h1,h2,h3,h4⟩:=o3 ok e;rw[A4 ok e]at h1;grind
end
def EF {P:Program}{w:World}{K:Frag}{tg:Expr}(a it:Addr)(a8:List (cZ×V))(ob:Obj){es:Array DictEntry}{t:Nat}(hd:ob.data=.dict es t):Turn P w K tg (XY a a8 ob) [it] it (λi h=>h.IsValIter it a i a8.length t) where
 mem:=H9
 obj:=λi h st b hb=>by
  have e:b=it:=by simpa using hb
  subst e;obtain⟨o,e,c,d⟩:=st;simp_all
 keep:=λi h h' st k=>st.at λo e=>k it H9 o e
 item:=by
  intro X U hw f hc i af s σ H E I hf st g;subst U hw f;obtain⟨j,O⟩:=g;obtain⟨vs,r,m⟩:=kQ I.hok j hd;obtain⟨l,f1,f2,n,p,q⟩:=hf it H9;have hl:vs.length=a8.length:=(Paired.length r).symm;obtain⟨u,hu,ru⟩:=r.get (k:=a8[i].1) (x:=a8[i].2) (vU O);refine wpAny_pyNext_values_item (by rw[hl];exact st) m hu λh' M v=>?_;rw[hl]at M;have y:=I.turned (t':=s.toks) (λb o hb e=>(v.2 b hb).trans e) l f1 n p q;obtain⟨o,e,c,d⟩:=id M;exact⟨u,rr,pM (s:={ s with heap:=h' }) e c d O9 ⟨a8[i].2,H,y,ru,⟨rr,a8[i].1,vU O⟩,M,λb hb=>(hf b hb).1⟩⟩
 done:=by
  intro X U hw f hc i af s σ H E I hf st g;subst U hw f;obtain⟨j,A⟩:=g;obtain⟨vs,r,m⟩:=kQ I.hok j hd;obtain⟨l,f1,f2,n,p,q⟩:=hf it H9;have hl:vs.length=a8.length:=(Paired.length r).symm;exact wpAny_pyNext_values_end (I.ok.hd hc) (by rw[hl];exact st) m (getElem?_eq_none N9) λh' z=>⟨rr,I.turned (t':=s.toks) (λb o hb e=>z b o hb e) l f1 n p q⟩
 self:=λ_ _ _ _ _ st h=>wpAny_pyIter_valiter st h
def EG {P:Program}{w:World}{K:Frag}{tg:Expr}(a it:Addr)(a8:List (cZ×V))(ob:Obj){es:Array DictEntry}{v:Nat}(hd:ob.data=.dict es v):Turn P w K tg (XX a a8 ob) [it] it (λi h=>h.IsKeyIter it a i a8.length v) where
 mem:=H9
 obj:=λi h st b hb=>by
  have e:b=it:=by simpa using hb
  subst e;obtain⟨o,e,c,d⟩:=st;simp_all
 keep:=λi h h' st k=>st.at λo e=>k it H9 o e
 item:=by
  intro X f hw g hc i af s σ H E I hf st j;subst f hw g;obtain⟨l,O⟩:=j;obtain⟨vs,r,m⟩:=kQ I.hok l hd;obtain⟨n,f1,f2,p,q,t⟩:=hf it H9;have hl:vs.length=a8.length:=(Paired.length r).symm;obtain⟨u,hu,ru⟩:=r.get (k:=a8[i].1) (x:=a8[i].2) (vU O);refine wpAny_pyNext_dict_item (by rw[hl];exact st) m hu λkey h' U M y=>?_;rw[hl]at M;have z:=I.turned (t':=s.toks) (λb o hb e=>(y.2 b hb).trans e) n f1 p q t;obtain⟨o,e,c,d⟩:=id M;exact⟨key,rr,pM (s:={ s with heap:=h' }) e c d O9 ⟨kV a8[i].1,H,z,OU U,⟨rr,a8[i].1,a8[i].2,vU O,rr⟩,M,λb hb=>(hf b hb).1⟩⟩
 done:=by
  intro X f hw g hc i af s σ H E I hf st j;subst f hw g;obtain⟨l,B⟩:=j;obtain⟨vs,r,m⟩:=kQ I.hok l hd;obtain⟨n,f1,f2,p,q,t⟩:=hf it H9;have hl:vs.length=a8.length:=(Paired.length r).symm;exact wpAny_pyNext_dict_end (I.ok.hd hc) (by rw[hl];exact st) m (getElem?_eq_none N9) λh' A=>⟨rr,I.turned (t':=s.toks) (λb o hb e=>A b o hb e) n f1 p q t⟩
 self:=λ_ _ _ _ _ st h=>wpAny_pyIter_keyiter st h
section
variable {X:Cx}{tg:Expr}
def Vo (O:TE):TI:=λσ H R=>O σ H λx M=>∃a a8 ob,x=.ref a/\M a=some (.dK a8 ob)/\R (XX a a8 ob) M
def MV {o:Expr}{U:TE}(ho:PE X o U):PI X tg o (Vo U):=by
 intro af s σ H R I h;refine bI (ho _ s σ H _ I h) λv s1 ⟨x,c,M,d,a,a8,ob,ex,O,q⟩=>?_;subst ex;cases d
 obtain⟨es,f,hd⟩:=pB M.hok O;obtain⟨vs,r,m⟩:=kQ M.hok O hd;have hl:=(Paired.length r).symm;refine wpAny_pyIter_dict (o3 M.hok O).2.1 m ?_;rw[hl];refine⟨s1.z,[s1.z],_,_,c,rr,M.kept λb o e=>vZ _ e,EG a _ _ ob hd,⟨_,vY _ rr,rr,rr⟩,λb hb=>?_,q⟩;have e:=by simpa using hb
 subst e;exact M.fpOk (vT _) (M.hok.fresh (vT _))
def Vp (O:TE):TI:=λσ H R=>O σ H λx M=>∃a a8 ob,x=.ref a/\M a=some (.dK a8 ob)/\R (XY a a8 ob) M
def MW {o:Expr}{f:TE}{cm b8:Pos}(ho:PE X o f)(M:attributeBase o "values" X.env (eval o X.env)=eval o X.env:=by rfl)(O:(cm.endLine == b8.line)=true:=by rfl):PI X tg (.Call (.Attribute o "values" cm) [] [] b8) (Vp f):=by
 intro af s σ H R I h;refine wpAny_Call_method0_late M O (bI (ho af s σ H _ I h) λv s1 ⟨x,g,U,i,a,a8,ob,ex,c,q⟩=>?_);subst ex;obtain⟨h1,h2⟩:=A3 U i (T:="dict") (.inr (.inr (.inl ⟨rr,.inl ⟨a8,ob,c⟩⟩)));cases i
 obtain⟨es,j,hd⟩:=pB U.hok c;obtain⟨vs,r,m⟩:=kQ U.hok c hd;have hl:=(Paired.length r).symm;refine⟨"dict","dict.values",plainAttrs_dict,PySem.F.slot_dict_values,PySem.F.type_dict_values,h1,h2,Calls.callWith_builtin rr (PySem.evalArgs_none ?_)⟩;refine call_meetsIn PySem.F.slot_dict_values h1 PySem.F.entry_dict_values (PySem.F.args_dict_values_1 _) (meets_dict_values _ a (o3 U.hok c).2.1) ⟨⟨vs,m.dictOf⟩,?_⟩;have d:Inv X af σ g { s1 with heap:=s1.heap.push { cls:=.type "dict_values",data:=.fields #[.ref a] } }:=U.kept λb o e=>vZ _ e;refine wpAny_pyIter_values ⟨_,vY _ rr,rr,rr⟩ (m.keep λb o e=>vZ _ e) ?_;rw[hl];refine⟨(s1.heap.push _).objs.size,[(s1.heap.push _).objs.size],_,_,g,rr,d.kept λb o e=>vZ _ e,EF a _ a8 ob hd,⟨_,vY _ rr,rr,rr⟩,λb hb=>?_,q⟩;have e:b=(s1.heap.push { cls:=.type "dict_values",data:=.fields #[.ref a] }).objs.size:=by simpa using hb
 subst e;exact d.fpOk (vT _) (d.hok.fresh (vT _))
end
end L2
namespace DL
open PySem PySem.Spec PySem.W PyProof.Rows L2
noncomputable def kD:cZ->D
 |.inl i=>.int i
 |.inr z=>.str z
def OV {K:Frag}{B:Hp}(k:cZ):Is K B (kV k) (kD k):=by
 cases k with
 |inl i=>exact .int i
 |inr z=>exact .str z
section
variable {K:Frag}{B:Hp}
def MX {a:Addr}{ks:LK}{vs:LV}{ds:LD}{ob:Obj}(h:B a=some (.dK (ks.zip vs) ob))(hl:ks.length=vs.length)(hs:IsL K B vs ds):lU K (XY a (ks.zip vs) ob) B ds:=by
 intro i H s;have hz:(ks.zip vs).length=vs.length:=by rw[length_zip];lia
 refine⟨λd ed=>?_,λM=>⟨s _ _ h,by rw[hz,hs.length];exact M⟩⟩;obtain⟨v,ev,iv⟩:=hs.get ed;have O:=(vV ev).1;refine⟨⟨s _ _ h,by rw[hz];exact O⟩,λy U hy=>?_⟩;obtain⟨rfl,k,e⟩:=hy;have:=(getElem?_zip_eq_some.mp e).2;rw[ev]at this;cases this
 exact⟨B,.refl s,iv⟩
def MY {a:Addr}{ks:LK}{vs:LV}{ob:Obj}(h:B a=some (.dK (ks.zip vs) ob))(hl:ks.length=vs.length):lU K (XX a (ks.zip vs) ob) B (ks.map kD):=by
 intro i H s;have hz:(ks.zip vs).length=ks.length:=by rw[length_zip];lia
 refine⟨λd ed=>?_,λO=>⟨s _ _ h,by simp_all⟩⟩;rw[vA]at ed;obtain⟨k0,ek,rfl⟩:=oY ed;have M:=(vV ek).1;refine⟨⟨s _ _ h,by rw[hz];exact M⟩,λy U hy=>?_⟩;obtain⟨rfl,k,v,e,rfl⟩:=hy;have:=(getElem?_zip_eq_some.mp e).1;rw[ek]at this;cases this
 exact⟨B,.refl s,OV _⟩
end
section
variable {X:Cx}{e:Expr}{tg:Expr}
@[simp] noncomputable def wH (f:FE):FA:=λρ=>(f ρ).bind λx=>match x.1 with|.dk _ ds=>some ds|_=>none
@[simp] noncomputable def Bd (f:FE):FA:=λρ=>(f ρ).bind λx=>match x.1 with|.dk ks _=>some (ks.map kD)|_=>none
def MZ (h:JE X e f)(M:attributeBase e "values" X.env (eval e X.env)=eval e X.env)(O:(cm.endLine == b8.line)=true):JI X tg (.Call (.Attribute e "values" cm) [] [] b8) (wH f):=by
 intro af s σ H R I q;obtain⟨B,ρ,ds,b,r,c,q⟩:=q;obtain⟨⟨xd,g⟩,ex,es⟩:=oX c;cases xd<;>try (cases es;done)
 cases es
 refine MW h M O _ s σ H R I ⟨B,ρ,_,_,b,r,ex,λv d N1 U i1 _=>?_⟩;cases i1 with
 |@dk a ks vs ds ob hd hl hs=>exact⟨a,_,ob,rr,U.nh _ _ hd,q _ d N1 U (MX hd hl hs)⟩
def Na {f:FE}(h:JE X e f):JI X tg e (Bd f):=by
 intro af s σ H R I q;obtain⟨B,ρ,ds,O,r,U,q⟩:=q;obtain⟨⟨xd,c⟩,ex,es⟩:=oX U;cases xd<;>try (cases es;done)
 cases es
 refine MV h _ s σ H R I ⟨B,ρ,_,_,O,r,ex,λv b N1 M i1 _=>?_⟩;cases i1 with
 |@dk a ks vs ds ob hd hl hs=>exact⟨a,_,ob,rr,M.nh _ _ hd,q _ b N1 M (MY hd hl)⟩
end
end DL
namespace DL
open PySem PySem.Spec PyProof.Rows L2
@[simp] abbrev gR (i:Nat)(j:Int):FE:=f2 eA (am i) (fC (.int j))
def Vq (F:Fn X.prog X.w X.K X.mg X.base k x f)(U:dq j X.A)(ha:JA X (e::es) fa)(hj:k<=j)(a:Gl X x)(M:(x == ("__debug__" : Str))=false)(he:starEach (e::es) X.env=(false,eval e X.env)::starEach es X.env)(O:(backTo pos (starEach es X.env)).any (·.1)=false):JE X (.Call (.Name x p) (e::es) [] pos) (fA f fa):=Mt F (U.mono hj) ha a M he O
def Nb (h1:∀y∈scope.names,y.2≠.cell:=by decide +kernel)(h2:scope.kind=.function:=by rfl)(h3:∀y∈scope.names,y.2=.local->scope.names.lookup y.1=some .local:=by decide +kernel)(M:(scope.names.all λy=>!(y.2 == NameKind.free) || (X.env.cells.lookup y.1).isSome)=true:=by rfl):CompSc X scope (dD scope.names X.env.cells []):=Qt h1 h2 h3 M
end DL
namespace DL
open PySem PySem.Spec PySem.W PyProof.Rows L2
def qJ:At->D
 |.i n=>.int n
 |.s z=>.str z
section
variable {prog:Program}{w:World}{A:Around}{E:QV}{s:Shared}
def Vr (hx:Ak x u)(hy:Ak y v):SeqAt.EqAt A s u v (dm (qJ x) (qJ y)):=by
 cases x with
 |i a=>
  obtain⟨t,rfl⟩:=hx;cases y with
  |i c=>obtain⟨t',rfl⟩:=hy;exact SeqAt.EqAt.int_int _ _ _ _
  |s c=>obtain⟨t',rfl⟩:=hy;exact SeqAt.EqAt.int_str _ _ _ _
 |s a=>
  obtain⟨t,rfl⟩:=hx;cases y with
  |i c=>obtain⟨t',rfl⟩:=hy;exact SeqAt.EqAt.str_int _ _ _ _
  |s c=>obtain⟨t',rfl⟩:=hy;exact SeqAt.EqAt.str_str _ _ _ _
theorem C2:∀ {xs ys:List At}{vs:LU},Paired Ak xs vs->Paired Ak ys vs->xs=ys
 |_,_,_,.nil,.nil=>rr
 |x::xs,y::ys,_,.cons p ps,.cons q M=>by
  rw[C2 ps M];cases x with
  |i a=>
   obtain⟨t,rfl⟩:=p;cases y with
   |i c=>obtain⟨t',e⟩:=q;cases e;rfl
   |s c=>obtain⟨t',e⟩:=q;cases e
  |s a=>
   obtain⟨t,rfl⟩:=p;cases y with
   |i c=>obtain⟨t',e⟩:=q;cases e
   |s c=>obtain⟨t',e⟩:=q;cases e;rfl
def Rx (x y:At):dm (qJ x) (qJ y)=true↔x=y:=by
 cases x<;>cases y<;>simp[qJ]
theorem pC:∀xs ys:List At,jv (xs.map qJ) (ys.map qJ)=true↔xs=ys
 |[],[]=>by simp
 |[],_::_=>by simp
 |_::_,[]=>by simp
 |x::xs,y::ys=>by
  rw[uY,uY,jv,vC,Rx,pC xs ys];simp
def Ry (hx:dP s.heap xs x)(hy:dP s.heap ys y)(hu:A.units<cLine):SeqAt.EqAt A s x y (jv (xs.map qJ) (ys.map qJ)):=by
 obtain⟨a,o,its,n,rfl,ho,hc,hd,r⟩:=hx;obtain⟨b,o',M,m,rfl,O,U,f,e⟩:=hy;by_cases c:a=b
 .grind[C2,pC,SeqAt.EqAt.same]
 .have g:s.heap.IsTuple a its:=⟨o,ho,hc,n,hd⟩;have h:s.heap.IsTuple b M:=⟨o',O,U,m,f⟩;have l1:xs.length=its.size:=by exact dF r
  have l2:ys.length=M.size:=by exact dF e
  have he:∀j (h1:j<its.size) (h2:j<M.size),SeqAt.EqAt A.in1 s its[j] M[j] (dm ((xs.map qJ).getD j .non) ((ys.map qJ).getD j .non)):=λj h1 h2=>by
   have p:=dG (.i 0) Value.none r (i:=j) N9;have q:=dG (.i 0) Value.none e (i:=j) N9;have d:its.toList.getD j Value.none=its[j]:=by simp_all
   have e2:M.toList.getD j Value.none=M[j]:=by simp_all
   rw[d]at p;rw[e2]at q;have k:(xs.map qJ).getD j .non=qJ (xs.getD j (.i 0)):=by simp_all
   have l:(ys.map qJ).getD j .non=qJ (ys.getD j (.i 0)):=by simp_all
   rw[k,l];exact Vr p q
  have rc:=SeqAt.RcAt.tuples g h hu he;have t:((List.range (min its.size M.size)).all (λj=>dm ((xs.map qJ).getD j .non) ((ys.map qJ).getD j .non)) && its.size == M.size)=jv (xs.map qJ) (ys.map qJ):=by
   rw[<-l1,<-l2];by_cases hl:xs.length=ys.length
   .rw[<-hl,Nat.min_self,beq_self_eq_true,Bool.and_true];have:=iI _ (xs:=xs.map qJ) (ys:=ys.map qJ) (by simpa using hl) λj x y d e2=>we j x y d e2;rwa [vI]at this
   .rw[wc (by simpa using hl),beq_eq_false_iff_ne.mpr hl,Bool.and_false]
  rw[t]at rc;exact SeqAt.EqAt.of_refs c rc
theorem EH (xs:List At):aU xs xs=some false:=by
 induction xs with
 |nil=>rfl
 |cons x xs M=>cases x<;>rw[aU,if_pos rr,M]
def HJ (hx:dP s.heap xs x)(hy:dP s.heap ys y)(h:aU (.i n::xs) (.i m::ys)=some b)(hu:A.units<cLine)(q:Q b s)(hn:Ak (.i n) u)(hm:Ak (.i m) v):KatLex prog w A true false Q [(u,v),(x,y)] 0 s:=by
 obtain⟨t,rfl⟩:=hn;obtain⟨t',rfl⟩:=hm;refine kat_cons (wpAny_eqBool_int ?_);rw[aU]at h;by_cases e:n=m
 .rw[if_pos e]at h;rw[show(n == m)=true by simp[e]];refine kat_yes (kat_cons (Ry hx hy hu _ _ _ _ ?_));by_cases e2:xs=ys
  .grind[pC,EH,kat_yes,kat_nil]
  .rw[Bool.eq_false_iff.mpr λz=>e2 ((pC xs ys).mp z)];refine kat_no (kat_one _ _ ?_);exact Hq hx hy h hu (by first|exact q|exact⟨b,rr,q⟩)
 .rw[if_neg e]at h;cases h
  rw[show(n == m)=false by simp[e]];exact kat_no (oneLt_int q)
end
def EI (h:Heap)(xs:List At)(v:Value):Prop:=∃n k a o its m u x,xs=.i n::k/\v=.ref a/\h.get? a=some o/\o.cls=.type "tuple"/\o.data=.seq its m/\its.toList=[u,x]/\Ak (.i n) u/\dP h k x
section
variable {prog:Program}{w:World}{A:Around}{E:QV}{s:Shared}
def Nc (hx:EI s.heap xs x)(hy:EI s.heap ys y)(h:aU xs ys=some b)(hu:A.units<cLine)(q:Q b s):wpAny (model prog w) A (keyLt' (tuples' true) x y) Q E s:=by
 obtain⟨n,k,a,o,its,m,u,e,rfl,rfl,ho,_,hd,ei,an,d⟩:=hx;obtain⟨f,k',g,o',its',i,u',j,rfl,rfl,O,_,U,M,c,ty⟩:=hy;refine kat_lt ho hd O U ?_;rw[ei,M];have hf:decide (its.size<its'.size)=false:=by
  rw[<-vG,<-vG,ei,M];rfl
 rw[hf];exact HJ d ty h hu q an c
theorem oD:∀ {ks:List (List At)}{vs:LU},Paired (EI h) ks vs->∃fs,KatTups h vs fs/\fs.length=ks.length/\∀v∈fs,∃n,Ak (.i n) v
 |_,_,.nil=>⟨[],trivial,rr,H9⟩
 |k::ks,_,.cons x t=>by
  obtain⟨fs,h1,h2,h3⟩:=oD t;obtain⟨n,k,a,o,its,m,u,M,rfl,rfl,ho,hc,hd,ei,an,_⟩:=x;refine⟨u::fs,KatTups.cons ho hc hd (by rw[<-Array.getElem?_toList,ei];rfl) h1,by simp[h2],λv hv=>?_⟩;grind
def EJ (hp:Paired (EI s.heap) ks vs)(hn:0<ks.length)(q:Q (tuples' true) s):wpAny (model prog w) A (keyKind' vs.toArray) Q E s:=by
 obtain⟨fs,h1,h2,h3⟩:=oD hp;refine kat_kind (T:=.type "int") h1 N9 (λv hv=>?_) O9 q;obtain⟨n,t,rfl⟩:=h3 v hv;exact .now
def HK (hc:cy ks=true)(hu:A.units<cLine)(hp:Paired (EI s.heap) ks vs):∀(i j:Nat)(C:Bool->Shared->Prop)(s1:Shared),i<ks.length->j<ks.length->s1=s->(∀s',s'=s->C (qw (Al ks) i j) s')->kas_ask prog w A (tuples' true) vs i j C s1:=by
 intro i j C s1 hi hj e O;subst e;have M:ks.getD i []∈ks:=by simp_all
 have U:ks.getD j []∈ks:=by simp_all
 refine Nc (dG [] _ hp hi) (dG [] _ hp hj) (fK hc M U) hu ?_;have:=O s1 rr;unfold qw Al at this;rw[yB (uS ⟨_,M,rr⟩)]at this;exact this
end
def Rz:D->Option (List At)
 |.tup [.int n,.tup es]=>(iN es).map (.i n :: ·)
 |_=>none
def kR:LD->Option (List (List At))
 |[]=>some []
 |d::ds=>(Rz d).bind λa=>(kR ds).map (a :: ·)
theorem ur:∀ {ds:LD}{ks:List (List At)},kR ds=some ks->ks.length=ds.length
 |[],_,h=>by simp_all[kR]
 |d::ds,_,h=>by
  obtain⟨a,h1,h⟩:=oX h;obtain⟨r,h2,h⟩:=oY h;subst h;simp[ur h2]
theorem yN (I:Inv X af σ H s):∀ {ys:LV}{ds:LD}{ks:List (List At)}{its:LU},aL ys its->IsL X.K H ys ds->kR ds=some ks->Paired (EI s.heap) ks its
 |_,_,_,_,.nil,.nil,h=>by cases h;exact .nil
 |_,_,_,_,.cons r b,.cons i c,h=>by
  obtain⟨a,h1,h⟩:=oX h;obtain⟨t,h2,h⟩:=oY h;subst h;refine .cons ?_ (yN I b c h2);unfold Rz at h1;split at h1
  .rename_i n es;obtain⟨k,O,rfl⟩:=oY h1;cases i with
   |tup hq hl=>
    cases r
    obtain⟨its',M,⟨o,ho,hc,m,hd⟩,_⟩:=I.tuple hq;cases hl with
    |cons i1 hl=>
     cases hl with
     |cons i2 hl=>
      cases hl
      cases M with
      |cons d M=>
       cases M with
       |cons e M=>
        cases M
        cases i1
        have hk:du [D.tup es]=some [k]:=by show(iN es).bind _=_;rw[O];rfl
        have U:=mn I (.cons e .nil) (.cons i2 .nil) hk;cases U with
        |cons U _=>exact⟨n,k,_,o,_,m,_,_,rr,rr,ho,hc,hd,rr,d,U⟩
  simp_all
def Nd (hu:A.units<cLine):KK X A kR λ_=>true:=⟨ur,λI _ _ _ _ r i e _ hc=>have hp:=yN I r i e;⟨λhn _ _ q=>EJ hp hn q,HK hc hu hp⟩⟩
def HL (hu:X.A.units+40<cLine):KK X X.A.in1.in1 kR λ_=>true:=Nd N9
@[simp] abbrev Be:FE->(Env->D->Option D)->FE:=wD kR λ_=>true
end DL
namespace DL
open PySem PySem.Spec PyProof.Rows L2
def Vs:Nat->(LU->Prop)->Prop
 |0,P=>P []
 |n+1,P=>∀a,Vs n λl=>P (a::l)
theorem R0:∀n P,Vs n P->∀us:LU,us.length=n->P us
 |0,_,h,[],_=>h
 |n+1,_,h,a::us,e=>R0 n _ (h a) us (Nat.succ.inj e)
section
variable {P:Program}{w:World}{K:Frag}{mg:SV}{base:Heap}
def KC (K:Frag)(mg:SV)(x:Str)(c:D):Prop:=∃u v,mg x=some u/\aF v u/\∀B,Is K B v c
def KD (w:World)(K:Frag)(mg:SV)(x:Str)(c:List (Str×D)):Prop:=∃d,mg x=some (.ref d)/\ma K w.params d c
def kc_of {x:Str}{c:D}{h:Heap}(X:K.In h)(G:h.Ns mainGlobals mg)(k:∃u v,nsIn K mainGlobals x=some (some u)/\aF v u/\∀B,Is K B v c):KC K mg x c:=let ⟨u,v,e,r⟩:=k;⟨u,v,mg_of X G e,r⟩
def kd_of {x:Str}{c:List (Str×D)}{h:Heap}(X:K.In h)(G:h.Ns mainGlobals mg)(k:∃d,nsIn K mainGlobals x=some (some (.ref d))/\ma K w.params d c):KD w K mg x c:=let ⟨d,e,r⟩:=k;⟨d,mg_of X G e,r⟩
def bQ.fqL {x:Str}{st:Stmt}{k:Nat}{O:LD->OB}(F:bQ K x st)(B:∃h,K.In h/\h.Ns mainGlobals mg)(g:FS)(N:LS)(n:Nat)
  (hb:∀ {f:Addr}{dA:Value}{A:Around}{outer:List PySem.Env}{s:Shared}{H:Hp}{E:XK},N.Nodup->dq k (A.deeper (envOfC x (aC st) s.z f dA))->(A.deeper (envOfC x (aC st) s.z f dA)).units+40<cLine->(∀c P,PySem.W.tabIn K x=some (c,P)->dA=.ref c)->xB (pf xK P w K mg base N x (aC st) f dA A outer s H E).nox (bF st) g)
  (S:FnScope N (N.take n) (aC st):=by refine⟨rr,rr,rr,?_,rr,?_,?_⟩<;>decide +kernel)
  (M:∀(kV doc pm:Value)(an:Option Addr)(dA ct:Value)(us:LU),us.length=(N.take n).length->bindArgs (fnOf x x (eU st) (bF st) (aC st) .none kV doc pm an dA ct) ⟨us,[]⟩=pure ((N.take n).zip us):=by
   exact λ_ _ _ _ _ _=>R0 _ _ (by(repeat intro);rfl))
  (e:ax g (N.take n).length (N.length - (N.take n).length)=O:=by rfl):
  Fn P w K mg base (k+1) x O:=let ⟨_,X,G⟩:=B;e ▸ F.fnL X G S M λ_ _ _ _ _ _ _ hc U=>hb S.nd U (kJ U) hc
end
section
variable {X:Cx}{x:Str}{pos:Pos}
def pgV (i:Nat)(M:X.N.Nodup)(hi:X.N[i]? = some x)(hx:Lf X.env.scope x)(hf:X.fn x=true\/X.env.scope.names.lookup x=some .local):PG X (.Name x pos) (gY i):=BL M hi hx hf
def Vt (N':LS)(hi:JI X tg dQ fi)(hc:∀ {C s H fp},JC (gN X N' scope (dD scope.names X.env.cells []) C s H fp) ve fc)(he:∀ {C s H fp},JE (gN X N' scope (dD scope.names X.env.cells []) C s H fp) xz fe)
  (O:Mg X.K nT sU g) (U:∀ {C s H fp},PG (gN X N' scope (dD scope.names X.env.cells []) C s H fp) tg g)
  (cp:lM X N' scope (dD scope.names X.env.cells []) nT cap)
  (S:CompSc X scope (dD scope.names X.env.cells [])) (M:X.calm=true)
  (hs:∀x,foldedSetIterable dQ X.env x=pure x):
  JE X (.ListComp xz [⟨tg,dQ,ve,0⟩] scope pos) (fW fi nT cap sU fc fe):=Mh M S cp hi (λ_ _ _ _=>U) O (λ_ _ _ _=>hc) (λ_ _ _ _=>he) hs
def Vu (N':LS)(a:X.N.Nodup)(hi:JI X tg dQ fi)(hc:∀ {C s H fp},JC (gN X N' scope (dD scope.names X.env.cells []) C s H fp) ve fc)(he:∀ {C s H fp},JE (gN X N' scope (dD scope.names X.env.cells []) C s H fp) xz fe)
  (O:Mg X.K nT sU g) (b:∀ {C s H fp},PG (gN X N' scope (dD scope.names X.env.cells []) C s H fp) tg g)
  (cp:lM X N' scope (dD scope.names X.env.cells []) nT cap)
  (U:X.N[i]? = some y) (hy:X.env.kindOf y=some .local)
  (c:swapsWith (.ListComp xz [⟨tg,dQ,ve,0⟩] scope pos) (some (.Name y py)) spos.line X.env=pure true)
  (S:CompSc X scope (dD scope.names X.env.cells [])) (M:X.calm=true)
  (hs:∀x,foldedSetIterable dQ X.env x=pure x):
  JS X (.Assign [.Name y py] (.ListComp xz [⟨tg,dQ,ve,0⟩] scope pos) spos) (dO i (fW fi nT cap sU fc fe)):=Mi M a U hy c S cp hi (λ_ _ _ _=>b) O (λ_ _ _ _=>hc) (λ_ _ _ _=>he) hs
def Vv (hi:JI X tg dQ fi)(M:PG X tg t)(O:Lh X.K sU t)(hb:xB X U g)(hp:PassesOwn (model X.prog X.w) X.A X.env X.xe)(hc:X.calm=true)
  (hs:∀x,foldedSetIterable dQ X.env x=pure x):JS X (.For tg dQ U [] pos) (xR fi sU g):=QJ hp hc hi M O hb hs
def Vw (hi:PI X tg dQ (Ut X.K fi))(M:PG X tg t)(O:Lh X.K sU t)(hb:xB X U g)(hp:PassesOwn (model X.prog X.w) X.A X.env X.xe)(hc:X.calm=true)
  (hs:∀x,foldedSetIterable dQ X.env x=pure x):JS X (.For tg dQ U [] pos) (tS fi sU g):=Ms hp hc hi M O hb hs
end
end DL
namespace DL
open PySem PySem.Spec PySem.W PyProof.Rows L2
def qK:entryFor table "dict_itemiterator.__iter__" = some Builtin.«dict_keyiterator.__iter__»:=entryFor_alias (id':="dict_keyiterator.__iter__") N8 rr I9 N8
def wI (he:IsItemIter s.heap it d i n O ok U)(h:Q (.ref it) s):wpAny (model prog w) A (pyIter (.ref it)) Q E s:=by
 have M:s.TypeIs (.ref it) _:=⟨_,he,rr⟩;refine wpAny_pyIter_slot M PySem.F.slot_dict_itemiterator_iter (wpAny_call_entry PySem.F.slot_dict_itemiterator_iter M qK ?_ (PySem.F.args_dict_itemiterator_iter_1 _));exact wY ⟨_,rr,"dict_itemiterator",_,M,PySem.F.slot_dict_itemiterator_next.lookup,h⟩
noncomputable def XZ (a:Addr)(a8:List (cZ×V))(ob:Obj):It:=⟨λi H=>H a=some (.dK a8 ob)/\i<a8.length,λi H y H'=>∃T k v,y=.ref T/\H T=none/\H'=upd H T (.tup [kV k,v])/\a8[i]? = some (k,v),λi H=>H a=some (.dK a8 ob)/\a8.length<=i⟩
def Bf {P:Program}{w:World}{K:Frag}{es:QD}{n:Nat}{pt:Pos}(a it:Addr)(a8:List (cZ×V))(ob:Obj){ds:Array DictEntry}{j:Nat}(hd:ob.data=.dict ds j):Turn P w K (.Tuple es n pt) (XZ a a8 ob) [it] it (λi h=>∃ok M,IsItemIter h it a i a8.length j ok M) where
 mem:=H9
 obj:=λi h st b hb=>by
  grind
 keep:=λi h h' st k=>let ⟨ok,M,e⟩:=st;⟨ok,M,k it H9 _ e⟩
 item:=by
  intro X c hw d hc i af s σ H E I hf st f;subst c hw d;obtain⟨ok,M,he⟩:=st;obtain⟨g,O⟩:=f;obtain⟨vs,r,m⟩:=kQ I.hok g hd;have hl:=(Paired.length r).symm;obtain⟨u,hu,ru⟩:=r.get (k:=a8[i].1) (x:=a8[i].2) (vU O);have fresh:=I.hok.fresh (vT _);have p:=vS (vX he);refine wpAny_pyNext_items_item (by rw[hl];exact he) m hu λkey h' U ho t hsz hk=>?_;rw[hl]at ho;refine⟨_,rr,wpAny_letOwnedTupleGo_items ho λh2 v s2=>?_⟩;have l:Heap.SameBut it h' h2:=s2;have y:∀b o,b∉[it]->s.heap.get? b=some o->h2.get? b=some o:=λb o hb q=>l.extBut _ _ (λz=>hb (by simp[z])) (hk b o (λz=>hb (by simp[z])) q);have new:bf X.prog X.w (upd H s.z (.tup [kV a8[i].1,a8[i].2])) h2 s.z (.tup _):=⟨by show 2<=sizeLine;decide,[key,u],.cons (OU U) (.cons ru .nil),⟨_,l.extBut _ _ p.symm t,rr,_,rr⟩⟩;refine⟨.ref s.z,upd H s.z _,Cj (s:=s) (t':=s.toks) I hf y (vT _) new,rr,⟨_,a8[i].1,a8[i].2,rr,fresh,rr,vU O⟩,⟨_,_,v⟩,λb hb=>?_⟩;have A:b≠s.z:=by
   simp_all
  rw[a5 A];exact(hf b hb).1
 done:=by
  intro X c hw d hc i af s σ H E I hf st f;subst c hw d;obtain⟨ok,M,he⟩:=st;obtain⟨g,B⟩:=f;obtain⟨vs,r,m⟩:=kQ I.hok g hd;have hl:=(Paired.length r).symm;exact wpAny_pyNext_items_end (I.ok.hd hc) (by rw[hl];exact he) m (getElem?_eq_none N9) λh' hk=>⟨rr,jZ (t':=s.toks) I hf λb o hb q=>hk b o (λz=>hb (by simp[z])) q⟩
 self:=λ_ _ _ _ _ st h=>let ⟨_,_,he⟩:=st;wI he h
section
variable {X:Cx}{es:QD}{kt:Nat}{pt:Pos}{e:Expr}
def Ya (O:TE):TI:=λσ H R=>O σ H λx M=>∃a a8 ob,x=.ref a/\M a=some (.dK a8 ob)/\R (XZ a a8 ob) M
def HM {o:Expr}{f:TE}{cm b8:Pos}(ho:PE X o f)(M:attributeBase o "items" X.env (eval o X.env)=eval o X.env:=by rfl)(O:(cm.endLine == b8.line)=true:=by rfl):PI X (.Tuple es kt pt) (.Call (.Attribute o "items" cm) [] [] b8) (Ya f):=by
 intro af s σ H R I h;refine wpAny_Call_method0_late M O (bI (ho _ s σ H _ I h) λv s1 ⟨x,g,U,i,a,a8,ob,ex,c,q⟩=>?_);subst ex;obtain⟨h1,h2⟩:=A3 U i (.inr (.inr (.inl ⟨rr,.inl ⟨a8,ob,c⟩⟩)));cases i
 obtain⟨es,j,hd⟩:=pB U.hok c;obtain⟨vs,r,m⟩:=kQ U.hok c hd;have hl:=(Paired.length r).symm;refine⟨"dict","dict.items",plainAttrs_dict,PySem.F.slot_dict_items,PySem.F.type_dict_items,h1,h2,Calls.callWith_builtin rr (PySem.evalArgs_none ?_)⟩;refine call_meetsIn PySem.F.slot_dict_items h1 PySem.F.entry_dict_items (PySem.F.args_dict_items_1 _) (meets_dict_items _ a (o3 U.hok c).2.1) ⟨⟨vs,m.dictOf⟩,?_⟩;have d:Inv X af σ g { s1 with heap:=s1.heap.push { cls:=.type "dict_items",data:=.fields #[.ref a] } }:=U.kept λb o e=>vZ _ e;refine wpAny_pyIter_items ⟨_,vY _ rr,rr,rr⟩ (m.keep λb o e=>vZ _ e) ?_;rw[hl];refine⟨(s1.heap.push _).objs.size,[(s1.heap.push _).objs.size],_,_,g,rr,d.kept λb o e=>vZ _ e,Bf a _ a8 ob hd,⟨_,_,vY _ rr⟩,λb hb=>?_,q⟩;have e:b=(s1.heap.push { cls:=.type "dict_items",data:=.fields #[.ref a] }).objs.size:=by simpa using hb
 subst e;exact d.fpOk (vT _) (d.hok.fresh (vT _))
noncomputable def iQ (ks:LK)(ds:LD):LD:=(ks.zip ds).map λx=>.tup [kD x.1,x.2]
def HN {K:Frag}{B:Hp}{a:Addr}{ks:LK}{vs:LV}{ds:LD}{ob:Obj}(h:B a=some (.dK (ks.zip vs) ob))(hl:ks.length=vs.length)(hs:IsL K B vs ds):lU K (XZ a (ks.zip vs) ob) B (iQ ks ds):=by
 intro i H s;have hz:(ks.zip vs).length=vs.length:=by rw[length_zip];lia
 have hn:=hs.length;refine⟨λd ed=>?_,λO=>⟨s _ _ h,by simp_all[iQ]⟩⟩;unfold iQ at ed;rw[vA]at ed;obtain⟨⟨k0,d0⟩,ek,rfl⟩:=oY ed;obtain⟨c,e2⟩:=getElem?_zip_eq_some.mp ek;obtain⟨v,ev,iv⟩:=hs.get e2;have M:=(vV ev).1;refine⟨⟨s _ _ h,by rw[hz];exact M⟩,λy j hy=>?_⟩;obtain⟨T,k,f,rfl,g,rfl,e⟩:=hy;obtain⟨g1,U⟩:=getElem?_zip_eq_some.mp e;rw[c]at g1;cases g1;rw[ev]at U;cases U;have b:=Ext.laid (o:=.tup [kV k0,f]) s g;exact⟨_,b,.tup (gF.of au) (.cons (OV _) (.cons (iv.mono b.bn) .nil))⟩
@[simp] def wJ (f:FE):FA:=λρ=>(f ρ).bind λx=>match x.1 with|.dk ks ds=>some (iQ ks ds)|_=>none
def HP (h:JE X e f)(M:attributeBase e "items" X.env (eval e X.env)=eval e X.env)(O:(cm.endLine == b8.line)=true):JI X (.Tuple es kt pt) (.Call (.Attribute e "items" cm) [] [] b8) (wJ f):=by
 intro af s σ H R I q;obtain⟨B,ρ,ds,b,r,c,q⟩:=q;obtain⟨⟨xd,g⟩,ex,es⟩:=oX c;cases xd<;>try (cases es;done)
 cases es
 refine HM h M O _ s σ H R I ⟨B,ρ,_,_,b,r,ex,λv d N1 U i1 _=>?_⟩;cases i1 with
 |@dk a ks vs ds ob hd hl hs=>exact⟨a,_,ob,rr,U.nh _ _ hd,q _ d N1 U (HN hd hl hs)⟩
end
section
variable {K:Frag}{E:Ends}{σ:St}{H:Hp}
def qL (i:Nat)(O U:FE):FS:=λρ=>match ρ[i]? with
 |some (some (.dk ks vs,true))=>(U (jm ρ)).bind λv=>(O ρ).bind λk=>(ji k.1).bind λM=>if ks.length<sizeLine then some (.nx (ρ.set i (some (.dk (dh ks M) (cM ks vs M v.1),true))))else none
 |_=>none
def EK (q:mR K (qL i fk fv) E σ H):BS (FK i) (tD K fk) (tD K fv) E σ H:=by
 obtain⟨B0,H0,ρ,r,⟨N,s⟩,e,p⟩:=q;unfold qL at e;split at e
 .rename_i ks ds ei;obtain⟨v,ev,e⟩:=oX e;obtain⟨k,ek,e⟩:=oX e;obtain⟨O,hk,e⟩:=oX e;split at e
  .cases e
   refine⟨df N _,jm ρ,v.1,v.2,bp.trans s.ext.nh,s.repH,ev,λd f N1 U i1 _=>?_⟩;obtain⟨s1,c⟩:=s.growH U;obtain⟨a,o,h1,h2,h3,h4⟩:=s1.ow i _ ei;refine⟨.ref a,h1,_,ρ,k.1,k.2,s1.ext.nh,s1.rep,ek,λg H2 N2 M i2 _=>?_⟩;have s2:=s1.grow M;have hv:=oC i2 hk;subst hv;obtain⟨h,o',k1,k2,k3,k4⟩:=s2.ow i _ ei;rw[h1]at k1;cases k1
   cases k4 with
   |@dk ks vs ds hl h5 ob=>
    refine⟨a,rr,.inl ⟨_,O,_,s2.ext.nh _ _ k2,rr,?_,λb=>?_⟩⟩
    .rw[length_zip];lia
    .rw[pA hl];exact p σ _ ⟨_,s2.writeB ei h1 (.dk (mq hl _ _) (h5.put ((i1.mono c).mono (dr λa o e q=>⟨M.bn a o e,q⟩))))⟩
  .cases e
 simp_all
end
section
variable {X:Cx}{pos:Pos}{e k:Expr}
def HQ (hu:X.A.units+1<cLine)(hv:JE X e fv)(hk:JE X k fk)(U:X.N[i]? = some y)(M:Le X.env.scope y)(hd:(y == ("__debug__" : Str))=false)
  (O:(y == ("__classdict__" : Str))=false) (hs:swapsWith e (some (.Subscript (.Name y py) k pt)) pos.line X.env=pure false):JS X (.Assign [.Subscript (.Name y py) k pt] e pos) (qL i fk fv):=
 PS.to (vy hu (jo U M hd O) hk hv hs) λ_ _ _ q=>EK q
end
section
variable {prog:Program}{w:World}{A:Around}{E:QV}{s:Shared}
theorem C3:∀(vs:LU)(ns:LI),vs.length=ns.length->(∀(i:Nat)(v:Value),vs[i]? = some v->∃(m:Int)(t:Tok),ns[i]? = some m/\v=Value.int m t)->IntsAre vs ns
 |[],[],_,_=>.nil
 |v::vs,n::ns,h,k=>by
  obtain⟨m,t,e,rfl⟩:=k 0 v rr;cases (show some n=some m from e)
  exact .cons n t (C3 vs ns (by simpa using h) λi v hv=>k (i+1) v hv)
def yO (hh:A.handled=none)(lo:(a == sysModules)=false)(hm:s.heap.DictAt (cn prog w) a a8 ep)(hk:a8.map (·.1)=ns.map .inl)(j:ns.length<64)
  (l:∀(h1 h':Heap)(tk:Nat)(b:Addr)(out:AV)(n:Nat)(M:LI),(∀c u,s.heap.get? c=some u->h1.get? c=some u)->(∀c u,h1.get? c=some u->h'.get? c=some u)->h1.objs.size<=b->h'.get? b=some (seqObj "list" out n) ->
   IntsAre out.toList M->M.Perm ns->M.Pairwise (·<=·)->Q (.ref b) { s with heap:=h',toks:=tk }):
  wpAny (model prog w) A (call (.builtin "sorted") [.ref a]) Q E s:=by
 refine Calls.call_function_entry kind_sorted plain_sorted entry_sorted (args_sorted1 _) ?_;refine wX (wY ?_);have e:=by have:=congrArg List.length hk;simpa using this
 refine wX (kdu_collect (A:=A.in1) (kdl_dict lo) (by exact hh) hm (by rw[sizeLine_eq];lia) λh1 tk U d O=>?_);have f:U.toList.length=ns.length:=by rw[vG,O.1,e]
 have o:=C3 U.toList ns f λi v hv=>by
  obtain⟨k,x,p,e2⟩:=O.2 i v (by simpa using hv);have h:(a8.map (·.1))[i]? = some k:=by rw[vA,p];rfl
  rw[hk,vA]at h;obtain⟨m,r,rfl⟩:=oY h;obtain⟨t,rfl⟩:=Value.isInt_shape (k:=m) (v:=v) e2;exact⟨m,t,r,rr⟩
 refine wX (wpAny_newList ?_ (by rw[f,sizeLine_eq];lia));have g:(h1.push (seqObj "list" U.toList.toArray 0)).get? h1.objs.size=some _:=vY _ rr;refine wX (wpAny_holding (wpAny_call_entry slot_list_sort ⟨_,g,rr⟩ entry_list_sort (list_sort_tree g o (by rw[f];exact j) λout M y z B=>⟨_,rr,?_⟩) (args_list_sort _)));obtain⟨n,he⟩:=sortedHeap_at (out:=out) g;refine wY ⟨_,rr,l h1 _ _ _ out n M d (λb u q=>?_) (vT _) he y z B⟩;have hl:=vX q;rw[sortedHeap_old (vS hl) (by simp_all[lt_succ_of_lt])];exact vZ _ q
end
noncomputable def ut:LK->Option LI
 |[]=>some []
 |.inl n::ks=>(ut ks).map (n :: ·)
 |.inr _::_=>none
theorem yP:∀ {ks:LK}{ns:LI},ut ks=some ns->ks=ns.map .inl
 |[],_,h=>by cases h;rfl
 |.inl n::ks,_,h=>by
  obtain⟨r,h1,rfl⟩:=oY h;rw[yP h1];rfl
 |.inr _::_,_,h=>by cases h
def Nf {a8:List (cZ×V)}{vs:List (cZ×Value)}(r:KV a8 vs):vs.map (·.1)=a8.map (·.1):=by
 induction r with
 |nil=>rfl
 |cons h t M=>simp_all
@[simp] def HR:LD->OB
 |[.dk ks _]=>(ut ks).bind λns=>if ns.length<64 then some (.lst ((ft ns).map .int),true)else none
 |_=>none
section
variable {X:Cx}
def EL (hc:X.calm=true):bg X (.builtin "sorted") (xA X.K HR):=by
 intro af s σ H xs us Q I r h;obtain⟨B,dl,d,bb,g,i,O,q⟩:=h;cases i with
 |nil=>simp at O
 |cons i1 i2=>
  cases i2 with
  |cons _ _=>simp_all
  |nil=>
   cases i1 with
   |@dk a ks vs ds ob hd hl hs=>
    obtain⟨u,rfl,k⟩:=eC r;cases k
    obtain⟨ns,en,O⟩:=oX O;split at O
    .rename_i U;cases O
     have c:=g _ _ hd;obtain⟨es,A,f⟩:=pB I.hok c;obtain⟨l,p,m⟩:=kQ I.hok c f;have t:l.map (·.1)=ns.map .inl:=by rw[Nf p,List.map_fst_zip N9,yP en]
     refine yO (I.ok.hd hc) (o3 I.hok c).2.1 m t U λh1 h' tk b out n v k1 k2 hb he x M y=>?_;have e:=qB M y;subst e;have j:Inv X _ σ H { s with heap:=h1,toks:=tk }:=np I k1 rr rr;have hf:=j.hok.fresh hb;have z:=Ext.laid (o:=.lst ((ft ns).map V.int)) g hf;exact⟨.ref b,_,j.laid k2 hb (show bf _ X.w _ h' _ (.lst _)from ⟨by rw[vI];unfold ft;rw[(a9 _ ns).length_eq,sizeLine_eq];lia,out.toList,n,eE x,he⟩),rr,q _ _ _ z (.lst (fD.of au) (jz _)) λ_=>⟨_,_,_,rr,rr,hf,au,jz _⟩⟩
    simp_all
   |_=>simp at O
def R1 (hu:X.A.units+1<cLine)(hi:JE X i fi)(ho:JE X o fo)(hm:behindInMarks .In o=false):JE X (.Compare i [.In] [o] pos) (f2 ZM fi fo):=by
 refine PE.to (P4 (Ql hu hi ho) hm) λσ H Q q=>?_;obtain⟨B,ρ,d,bb,b,r,M,q⟩:=q;obtain⟨y,c,M⟩:=oX M;obtain⟨x,ex,M⟩:=oX M;refine⟨B,ρ,y.1,y.2,b,r,c,λe f N1 O i2 _=>⟨N1,ρ,x.1,x.2,O.nh,r.mono O.bn,ex,λv H2 N2 U i1 g=>?_⟩⟩;obtain⟨xd,j⟩:=x;cases i1 with
 |@dk a ks vs ds ob h hl hs=>
  obtain⟨k,hk,M⟩:=oY M;cases M
  have hv:=oC i2 hk;subst hv;refine⟨a,jl _ k,rr,.inl ⟨_,k,_,.inl (U.nh _ _ h),rr,rr⟩,?_⟩;rw[ul hl hs];exact(q.into (O.trans U)).one U.nh (.bl _)
 |_=>simp at M
end
end DL
namespace DL
open PySem PySem.Spec PyProof.Rows L2
@[simp] abbrev fV (i:Nat)(g:FA):FA:=ai (am i) g
@[simp] abbrev fI (n:Int):FE:=fC (.int n)
@[simp] abbrev fS (s:PySem.Str):FE:=fC (.str s)
end DL
namespace DL
open PySem PySem.Spec PySem.W PyProof.Rows L2
def HS:Value->Int
 |.int n _=>n
 |_=>0
def koI {prog:Program}{w:World}:KOf (PySem.intKind prog w) HS .int:=⟨intKind_is prog w,λh=>Value.isInt_shape h,λ_ _=>rr,λ_ _=>rr⟩
theorem yQ:∀(vs:LU),(∀v∈vs,∃x t,v=.int x t)->IntsAre vs (vs.map HS)
 |[],_=>.nil
 |v::vs,h=>by
  obtain⟨x,t,rfl⟩:=h v mX;exact .cons x t (yQ vs λu hu=>h u (mZ _ hu))
def soI {prog:Program}{w:World}:yx prog w HS .int λM=>aL ((ft M).map V.int):=λh1 h2 h3 ho h=>
 list_sort_tree ho (yQ _ h1) h3 λout O U a b=>h out (by have e:=qB (a.trans h2) b;subst e;exact eE U)
theorem IntsAre.at:∀ {vs:LU}{ss:LI},IntsAre vs ss->∀(i:Nat)(v:Value),vs[i]? = some v->∃x t,v=.int x t/\ss[i]? = some x
 |_,_,.nil,i,v,h=>by simp at h
 |_,_,.cons x t M,0,v,h=>by simp at h;exact⟨x,t,h.symm,rr⟩
 |_,_,.cons x t M,i+1,v,h=>by
  simp only[List.getElem?_cons_succ]at h;exact IntsAre.at M i v h
@[simp] def qM:D->OB:=Ha jy ft .int
def yR {X:Cx}{e:Expr}{O M p p2:Pos}(hc:X.calm=true)(m1:X.mg "sorted" = none)(m2:X.mg "set" = none)(he:JE X e f)(g1:Gl X "sorted")(U:Gl X "set")
  (h1:starEach [e] X.env=(false,eval e X.env)::starEach [] X.env):JE X (.Call (.Name "sorted" p) [.Call (.Name "set" p2) [e] [] M] [] O) (f1 qM f):=
 y6 koI soI (λa=>(a9 _ a).length_eq) jz (λb hl c=>have h:=wC b hl c;⟨IntsAre.length h,IntsAre.at h⟩) hc m1 m2 he g1 U h1
end DL
namespace DL
open PySem PySem.Spec PyProof.Rows L2
def Bg:typeLookup (.type "list_reverseiterator") "__len__" = pure none:=Y9
def Ng:typeLookup (.type "list_reverseiterator") "__length_hint__" = pure (some (.builtin "list_reverseiterator.__length_hint__")):=Y9
def Bh:bootBuiltins "reversed" = some (.type "reversed"):=I9
section
variable {prog:Program}{w:World}{A:Around}{E:QV}{s:Shared}{l it:Addr}{items:AV}
def HU {Q:Bool->Shared->Prop}(M:s.TypeIs (.ref it) "list_reverseiterator")(h:Q false s):wpAny (model prog w) A (Builtin.List.listLengthHint (.ref it)) Q E s:=by
 refine wX (wpAny_specialOf M Bg ?_);refine wX (wpAny_specialOf M Ng ?_);generalize O:("list_reverseiterator.__length_hint__" : String)=U;subst O;refine wX (wpAny_isInstance (b:=true) M N8 ?_);exact wY h
def tE (hh:A.handled=none)(k:l≠it)(Ai:s.heap.IsRevIter it l ((items.size:Int) - 1))(hl:s.heap.IsList l items)(hn:items.size<=sizeLine)
  (m:∀s' M f,(∀b o,b≠it->s.heap.get? b=some o->s'.heap.get? b=some o)->s'.gens=s.gens->s'.os=s.os->s'.heap.get? s.heap.objs.size=some (seqObj "list" M f)->M.toList=items.toList.reverse->Q (.ref s.heap.objs.size) s'):
  wpAny (model prog w) A (call (.type "list") [.ref it]) Q E s:=by
 have h:∀ {b o},s.heap.get? b=some o->b≠s.heap.objs.size:=λe=>vS (vX e);have n:it≠s.heap.objs.size:=by obtain⟨o,e,_⟩:=id Ai;exact h e
 have p:l≠s.heap.objs.size:=by obtain⟨o,e,_⟩:=id hl;exact h e
 refine callType_codes (Q₁:=λobj a=>obj=.ref s.heap.objs.size/\a={ s with heap:=s.heap.push _ }) called_list (PySem.F.typeCall_list_1 _) PySem.F.entry_list_init
  (code_list_new _ ⟨rr,rr⟩) λobj a c=>?_
 obtain⟨rfl,rfl⟩:=c;have hS:(s.heap.push { cls:=.type "list",data:=.seq #[] }).get? s.heap.objs.size=some _:=vY _ rr;refine⟨⟨_,hS,rr⟩,PySem.F.args_list_init_2 _ _,?_⟩;refine wX ?_;unfold Builtin.List.listItems;refine wX (wpAny_seqItems hS rr (wY ?_));refine wX (wpAny_updateSeq hS rr ?_);have j:=Heap.get?_update_self (Obj.mapSeq (λ_=>(#[]:AV))) hS rr;have d:∀b o,s.heap.get? b=some o->((s.heap.push { cls:=.type "list",data:=.seq #[] }).update s.heap.objs.size (Obj.mapSeq (λ_=>(#[]:AV)))).get? b=some o:=λb o e=>(Heap.get?_update_other _ _ (Ne.symm (h e))).trans (vZ _ e);refine wX (wpAny_letGo ?_);generalize (s.heap.push _).update s.heap.objs.size _=g at j d |-;have O:=Ai.at λo e=>d _ _ e;have q:g.IsList l items:=hl.at λo e=>d _ _ e;have W:=Walks.listRev (prog:=prog) (w:=w) (A:=A.in1.in1) hh it l k items;have r:s.heap.objs.size∉[it,l]:=by grind
 unfold Builtin.List.listExtendWith;refine wX (wpAny_typeOf (T:="list_reverseiterator") (show Shared.TypeIs { s with heap:=g } _ _ from Heap.IsRevIter.typeIs (s:={ s with heap:=g }) O) ?_);rw[if_neg (by simp[Builtin.List.listSameRef,n.symm])];refine wX (wpAny_pyIter_revIter O ?_);refine wX (wpAny_holding (HU (Heap.IsRevIter.typeIs (s:={ s with heap:=g }) O) ?_));rw[if_neg O9];refine wY ⟨plainId_quiet plain_extend_loop _,codeAny_extend_loopS W.toS hn _ r _ items.size 0 _ _ _ rr (uN _) ⟨uN _,by simp_all,q⟩ j (ItemsOf.nil _) λs' M f hm t U=>?_⟩;refine⟨rr,m s' M f (λb o hb e=>hm.heap b o (λz=>?_) (d b o e)) hm.gens hm.os t ?_⟩
 .simp_all
 .apply ext_getElem?;intro i;by_cases hi:i<items.size
  .obtain⟨v,hv⟩:∃v,M[i]? = some v:=⟨_,Array.getElem?_eq_getElem (by rw[U.1];exact hi)⟩;rw[Array.getElem?_toList,hv,List.getElem?_reverse (by simpa using hi)];have:=U.2 i v hv;simp_all
  .rw[getElem?_eq_none (by rw[vG,U.1];lia),getElem?_eq_none s9]
end
@[simp] noncomputable def Vx:D->OB
 |.lst ds=>some (.lst ds.reverse,true)
 |_=>none
def aL.rev (h:aL vs us):aL vs.reverse us.reverse:=by
 induction h with
 |nil=>exact .nil
 |cons r _ M=>rw[reverse_cons,reverse_cons];exact M.append (.cons r .nil)
def IsL.rev {K:Frag}{B:Hp}{vs:LV}:∀ {ds:LD},IsL K B vs ds->IsL K B vs.reverse ds.reverse:=by
 induction vs with
 |nil=>intro ds h;cases h;exact .nil
 |cons v vs M=>intro ds h;cases h with|cons h t=>rw[reverse_cons,reverse_cons];exact(M t).append (.cons h .nil)
section
variable {X:Cx}{e:Expr}{pos p pos2 p2:Pos}
def Bi (O:X.calm=true)(hl:X.mg "list" = none)(hm:X.mg "reversed" = none)(he:JE X e f)(t:Gl X "list")(u:Gl X "reversed")
  (hs:starEach [e] X.env=[(false,eval e X.env)])
  (U:starEach [.Call (.Name "reversed" p2) [e] [] pos2] X.env=[(false,eval (.Call (.Name "reversed" p2) [e] [] pos2) X.env)]):
  JE X (.Call (.Name "list" p) [.Call (.Name "reversed" p2) [e] [] pos2] [] pos) (f1 Vx f):=by
 intro af s σ H Q I q;obtain⟨B,ρ,d,bb,v,r,c,dI⟩:=q;obtain⟨⟨xd,R⟩,ex,c⟩:=oX c;cases xd<;>try (cases c;done)
 rename_i ds;cases c
 refine wpAny_Call_Name_kw (fz I t hl wl ?_ O9 O9);refine PyProof.Rows.callWith_type1 ?_ (by rw[U];rfl) rr;rw[U];refine Calls.spliced_cons ?_;refine wpAny_Call_Name_kw (fz I u hm Bh ?_ O9 O9);refine PyProof.Rows.callWith_type1 (bI (gG he ng hs pos2 af s σ H (λvs k=>∃N1,Ext B N1 H k/\IsL X.K N1 vs [.lst ds]) I ⟨B,ρ,[.lst ds],v,r,by simp[ai,av,ex],λvs k N1 M i1=>⟨N1,M,i1⟩⟩) λus s1 ⟨vs,k,g,x,N1,M,i⟩=>?_) (by rw[hs];rfl) rr;cases i with
 |cons y z=>
  cases z
  cases y
  rename_i l ws h m1;obtain⟨S,rfl,A⟩:=eC x;cases A
  obtain⟨its,m,pl,C⟩:=g.list (M.nh.seq h);have D:l<s1.heap.objs.size:=by obtain⟨o,j,_⟩:=pl.isList;exact vX j
  refine call_reversed_list pl.isList ?_;refine Calls.spliced_nil ?_;have hsz:(s1.heap.push (revObj l ((its.toArray.size:Int) - 1))).objs.size=s1.heap.objs.size+1:=size_push' _ _;refine tE (g.ok.hd O) (vS D) ⟨_,vY _ rr,rr,rr⟩ (pl.isList.push _) (by rw[vH,<-m.length];exact C) λs' E F hk G J hS a=>?_;have k1:=λb o j=>hk b o (vS (vX j)) (vZ _ j);have hp:=g.hok.fresh (le_succ _);rw[hsz]at hS |-;have L:=np (s1:={ s1 with drawn:=s'.drawn }) g (λ_ _ e=>e) rr rr;have n:=Ext.laid (o:=.lst ws.reverse) M.nh hp;obtain⟨h',g',d',N,P⟩:=s';cases G;cases J
  have i:=(IsL.rev m1).mono n.bn;refine⟨.ref (s1.heap.objs.size+1),_,L.laid (t':=N) k1 (le_succ _) (show bf X.prog X.w _ h' _ (.lst ws.reverse)from ⟨by simp_all,E.toList,F,?_,hS⟩),rr,dI _ _ _ (M.trans n) (.lst (fD.of au) i) λ_=>⟨_,_,_,rr,rr,M.hh.free hp,au,i⟩⟩;rw[a];exact aL.rev m
end
@[simp] noncomputable def inT (j:Nat):D×Bool->Option LD
 | (.tup ds,true)=>match ds[j]? with
  |some (.lst es)=>some es
  |_=>none
 |_=>none
@[simp] def gTA (i:Nat)(f:FE)(M:FT)(g1:FS)(c2:FT)(j:Nat)(fe:FE)(h2:FS):FS:=λρ=>(f (jm ρ)).bind λx=>match M (ρ.set i (some (x.1,false))) with
 |some true=>match g1 (ρ.set i (some (x.1,false))) with
  |some (.rt d b)=>some (.rt d b)
  |_=>none
 |some false=>match c2 (ρ.set i (some (x.1,false))) with
  |some false=>some (.nx (ρ.set i (some (x.1,false))))
  |some true=>(inT j x).bind λes=>(fe (ρ.set i (some (x.1,false)))).bind λy=>if i<ρ.length/\es.length<sizeLine then h2 (ρ.set i none)else none
  |none=>none
 |none=>none
structure FnD (P:Program)(w:World)(K:Frag)(mg:Str->Option Value)(base:Heap)(k:Nat)(x:Str)(f:List D->OB):Prop where
 ex:∃(ad:Addr)(fd:FuncData)(ps:List Str),mO P w K mg base xK k ad fd ps (Li K f)/\mg x=some (.ref ad)/\PySem.W.keepIn K (.ref ad)=true/\oy K fd ps []/\oy K fd ps [.none]
end DL
namespace DL
open PySem PySem.Spec PySem.W PyProof.Rows L2
def Te (ns:LI):Prop:=∀i∈ns,Builtin.Int.intBits i<=1048576
abbrev Vy:D->D->OB:=A8 (λi j=>decide (Builtin.Int.intBits i<=2097152/\Builtin.Int.intBits j<=2097152)) λi j=>.int (i*j)
def R3 {X:Cx}:cB X (binaryOp .Mult) (rD X.K Vy):=lX (TQ λ_ _ _ _ _ _ _ hc q=>mul_int q (IntMulOk.of_le hc.1 hc.2 O9)) (λ_ _ h=>xy h) λ_ _ _=>.int _
def R4 {ns:LI}(h:WData.layableAll [WData.list (ns.map WData.int)]=true):Te ns:=λi hi=>by
 have h1:=layableW_arg h _ (mem_singleton.mpr rr);have h2:=layableW_item h1 _ (uS ⟨i,hi,rr⟩);simp_all[WData.layable,WData.weight,Builtin.Int.intBits]
def walkB {l:PySem.W.OpenLaw}{q:Program}{O:LS}{D:SV->Heap->Prop}{B:World->Heap->Prop}{d:DefRec}{K:Params->Frag}{k:Nat}{x:Str}{f:LD->OB}{L:List (Str×Option (Addr×Addr))}(hn:l.most=some 63)(E:d.params.defaults=[])(I:dq k callerA)
  (J:∀(w:World)(h:Heap),B w h->(K w.params).In h) (n:∀w:World,pK (K w.params) L) (Q:(L.all λp=>p.2.isNone || ((recsOf q).find? λe=>e.name == p.1).isSome)=true)
  (F:∀(w:World)(mg:SV)(fa:Addr)(h:Heap),(K w.params).In h->h.Ns mainGlobals mg->mg d.name=some (.ref fa) ->
   ∃fd:FuncData,(∀(s:Shared)(u:Value),BindsTo s fd ⟨[u],[]⟩ [(x,u)])/\∀base:Heap,(K w.params).In base->base.Ns mainGlobals mg->mO l.prog w (K w.params) mg base xK k fa fd [x] (Li (K w.params) f))
  (R:∀ns:LI,ns.length<=63->Te ns->∃b,f [.lst (ns.map .int)]=some (.bl true,b)):PySem.W.WalkO q O D B l.row.toRowW d [] (λf vs=>PySem.call f vs):=by
 intro w s₀ C mg mb G Y fa o pm cd doc dV kV ho hd F5 S t V args vals as i j X Z hlo;obtain⟨a,vs,ns,rfl,rfl,Zl,U,M⟩:=Att.DZ hn i Z;have y:=J w _ Y;obtain⟨fd,hb,hF⟩:=F w mg fa _ y G.T.g t;refine enter_call (codeAny_mono (Ek (wn L) (λb u e=>?_) (n w).none y G.T.g G.T.b G.T.builtins G.T.nolimit G.T.bmain V Zl U (vR M O9) I hF hb λH hH hS=>?_) λr s' hq=>?_)
 .obtain⟨p,hp,e2⟩:=mem_filterMap.mp (jx e);obtain⟨⟨c,P⟩,e3,e4⟩:=oY e2;cases e4
  have m:=all_eq_true.mp Q p hp;rw[e3]at m;obtain⟨r,z⟩:=uU m;have A:PySem.W.tabIn (K w.params) p.1=some (c,P):=by
   rw[(n w).names]at hp;simp_all<;>lia
  obtain⟨h1,h2⟩:=PySem.W.tab_of G.T y z A;exact⟨h2,(h1.tab h2).isCodeTable⟩
 .obtain⟨b,e⟩:=R ns M (R4 j);exact⟨H,_,_,b,⟨.refl H,(n w).tb hH⟩,.cons (.lst hS (.flat rr)) .nil,e,λv H' N x' i' _=>by cases i';rfl⟩
 .obtain⟨rfl,h2,h3,h4⟩:=hq;exact⟨.inl ⟨.bool _,.bool _,[],rr,λ_=>rr,.bool _,Att.Ea l _,λ_=>⟨List.Pairwise.nil,λ_ hm=>(nomatch hm)⟩⟩,h2,h3,h4⟩
structure OneK (α:Type)[DecidableEq α] where
 v:α->V
 ev:Value->α->Bool
 as:List D->Option (List α)
 rel:∀ {a:α}{u:Value},aF (v a) u->∀b,ev u b=decide (a=b)
 eq:∀ {A:Around}{s:Shared}{a b:α}{u u':Value},aF (v a) u->aF (v b) u'->PySem.SeqAt.EqAt A s u u' (ev u b)
 is:∀ {K:Frag}{B:Hp}{ws:List V}{ds:List D}{l:List α},IsL K B ws ds->as ds=some l->ws=l.map v
noncomputable def evS:Value->Str->Bool
 |.str a _,b=>decide (a=b)
 |_,_=>false
theorem HV {K:Frag}{B:Hp}:∀ {ws:LV}{ds:LD}{l:LS},IsL K B ws ds->dL ds=some l->ws=l.map V.str
 |_,_,_,.nil,e=>by cases e;rfl
 |_,_,_,.cons i M,e=>by
  obtain⟨z,O,e⟩:=oX e;obtain⟨r,e2,rfl⟩:=oY e;rw[HV M e2];cases i<;>try (cases O;done)
  simp_all
def Yb:OneK Str:=⟨V.str,evS,dL,λ{a u} ⟨t,e⟩ b=>by subst e;rfl,λ{A s a b u u'} ⟨t,e⟩ ⟨t',M⟩=>by
 subst e;subst M;have:=PySem.SeqAt.EqAt.str_str (A:=A) (s:=s) a t b t';rw[show(a == b)=decide (a=b)from rr]at this;exact this,HV⟩
section
variable {X:Cx}{α:Type}[DecidableEq α] (k:OneK α)
noncomputable def nG (l:List α)(b:α):Nat:=l.findIdx λa=>decide (a=b)
def Yc (K:Frag):V->LV->Hp->VK->Prop:=λx vs H Q=>∃(l:Addr)(as:List α)(b:α),x=.ref l/\vs=[k.v b]/\fD K H l (as.map k.v)/\nG as b<as.length/\Q (.int (nG as b:Nat)) H
theorem Nh {vs:LV}{us:LU}(r:aL vs us):∀(i:Nat)(h:i<us.length),∃v,vs[i]? = some v/\aF v us[i]:=by
 induction r with
 |nil=>intro i h;cases h
 |cons M U O=>
  intro i h;cases i with
  |zero=>exact⟨_,rr,M⟩
  |succ i=>exact O i _
theorem R5:X2 X "list.index" (Yc k X.K):=by
 intro af s σ H x vs v us Q I c d h;obtain⟨l,as,b,rfl,rfl,f,hk,q⟩:=h;cases c
 obtain⟨u,rfl,ru⟩:=d.one;obtain⟨its,r,⟨o,m,e,hc,U,hd⟩,z⟩:=I.list f;have hl:=r.length;rw[vI]at hl z;have at':∀(i:Nat)(hi:i<its.length),∃M:i<as.length,aF (k.v as[i]) its[i]:=λi hi=>by
  obtain⟨v,a,e2⟩:=Nh r i hi;have M:i<as.length:=N9
  rw[vA,vU M]at a;cases a
  exact⟨M,e2⟩
 obtain⟨oc,od,g,mS⟩:=o;subst hc U hd;have hz:sizeLine<2 ^ 63 - 1:=O9
 have hj:nG as b<its.length:=N9
 refine call_meets PySem.F.slot_list_index ⟨_,e,rr⟩ PySem.F.entry_list_index (PySem.F.args_list_index_2 _ _)
  (PySem.SeqAt.list_indexAt l its.toArray m none mS u (λy=>k.ev y b) (nG as b) (by simpa using hj) N9 ?_ (λi M j=>?_)) ⟨e,λy hy=>?_,?_⟩
 .obtain⟨_,O⟩:=at' _ hj;simp only[List.getElem_toArray];rw[k.rel O];exact List.findIdx_getElem (w:=hk)
 .obtain⟨_,O⟩:=at' i (by simpa using M);simp only[List.getElem_toArray];rw[k.rel O];have:=List.not_of_lt_findIdx (xs:=as) j;simpa using this
 .obtain⟨i,M,rfl⟩:=List.mem_iff_getElem.mp (show y∈its by simpa using hy);obtain⟨_,O⟩:=at' i M;exact k.eq O ru
 .exact⟨.int (nG as b:Nat),H,I.tok _,⟨_,rr⟩,q⟩
@[simp] def R6:D->D->OB
 |.lst ds,y=>(k.as ds).bind λl=>(k.as [y]).bind λc=>match c with
  |[b]=>if nG l b<l.length then some (.int (nG l b:Nat),false)else none
  |_=>none
 |_,_=>none
variable {a e:Expr}
theorem R7 {cm b8:Pos}{fa f:FE}(ha:JE X a fa)(he:JE X e f)(O:attributeBase a "index" X.env (eval a X.env)=eval a X.env)
  (m:((backTo b8 (starEach [e] X.env)).all (λx=>!x.1) && (backToKw b8 (keywordEach [] X.env)).all (λx=>x.1.isSome)
   && decide ([e].length+([]:List Keyword).length+(if([]:List Keyword).isEmpty then 0 else 1)<30))=true)
  (U:(cm.endLine == b8.line)=true) (hs:starEach [e] X.env=[(false,eval e X.env)]):JE X (.Call (.Attribute a "index" cm) [e] [] b8) (f2 (R6 k) fa f):=by
 refine PE.to (xJ plainAttrs_list PySem.F.slot_list_index PySem.F.type_list_index (R5 k) ha (dB he f6 hs) O m U hs rr) λσ H Q q=>?_;obtain⟨B,ρ,d,bb,n,r,M,dI⟩:=q;obtain⟨⟨xd,t⟩,ex,M⟩:=oX M;obtain⟨⟨u,y⟩,o,M⟩:=oX M;cases xd<;>try (cases M)
 obtain⟨as,en,M⟩:=oX M;obtain⟨c,p,M⟩:=oX M;split at M
 .rename_i b;split at M
  .rename_i hk;cases M
   refine⟨B,ρ,_,_,n,r,ex,λv z N1 i i1 f1=>?_⟩;cases i1
   rename_i l ws h m1;have s:=k.is m1 en;subst s;refine⟨.inl ⟨rr,_,i.nh.seq h⟩,N1,ρ,_,_,i.nh,r.mono i.bn,o,λw H2 N2 j i2 _=>?_⟩;have g:=i.trans j;exact⟨l,as,b,rr,k.is (.cons i2 .nil) p,j.nh.seq (j.bn.seq h),hk,(dI.into g).one g.nh (.int _)⟩
  simp_all
 simp_all
end
end DL
namespace DL
open PySem PySem.Spec PyProof.Rows L2
structure Gq where
 fs:List (Str×Nat×(List D->OB))
 cs:List (Str×D)
 ds:List (Str×List (Str×D))
 no:List Str
 ls:List Str
structure Gq.Ok (g:Gq)(P:Program)(w:World)(K:Frag)(mg:Str->Option Value)(base:Heap):Prop where
 hx:∃h,K.In h/\h.Ns mainGlobals mg
 fs:∀t∈g.fs,Fn P w K mg base t.2.1 t.1 t.2.2
 cs:∀t∈g.cs,KC K mg t.1 t.2
 ds:∀t∈g.ds,KD w K mg t.1 t.2
 no:∀x∈g.no,mg x=none
 ls:∀x∈g.ls,yH K x
structure Sq where
 g:Gq
 N:List Str
 sc:Scope
 cl:List Str
 k:Nat
 fn:Bool
 q:Option Str
structure Yq (S:Sq) where
 prog:Program
 w:World
 K:Frag
 mg:Str->Option Value
 base:Heap
 A:Around
 s:Shared
 H:Hp
 env:PySem.Env
 outer:List PySem.Env
 stack:List PySem.Env
 ex:List Addr
 rm:dq S.k A
 cl:∀x∈S.cl,(env.cells.lookup x).isSome
 nd:S.N.Nodup
 ok:S.g.Ok prog w K mg base
 ql:∀x,S.q=some x->env.qual=x ++ ".<locals>."/\∀c P,PySem.W.tabIn K x=some (c,P)->env.code=.ref c
noncomputable abbrev bS (S:Sq)(d:Yq S):Cx:=⟨d.prog,d.w,d.K,d.mg,d.base,d.A,S.N,d.s,d.H,{ d.env with scope:=S.sc },d.outer,d.stack,d.ex,λ_=>S.fn,true,[],λ_ _=>False⟩
abbrev uu (S:Sq)(e:Expr)(f:FE):Prop:=∀d:Yq S,JE (bS S d) e f
abbrev yS (S:Sq)(e:Expr)(f:FT):Prop:=∀d:Yq S,JT (bS S d) e f
abbrev OW (S:Sq)(e:Expr)(f:FT):Prop:=∀d:Yq S,JW (bS S d) e f
abbrev HW (S:Sq)(e:Stmt)(f:FS):Prop:=∀d:Yq S,JS (bS S d) e f
abbrev OX (S:Sq)(e:List Stmt)(f:FS):Prop:=∀d:Yq S,xB (bS S d) e f
structure Oj {α:Type}(J:α->Prop) where
 f:α
 ok:Bool
 p:ok->J f
abbrev b7 {α:Type}(J:α->Prop):=LN->Option (Oj J×LN)
section
variable {α β γ δ:Type}{J J':α->Prop}{J1:β->Prop}{J2:γ->Prop}{J3:δ->Prop}
noncomputable def bY (k:Nat->b7 J):b7 J
 |[]=>none
 |i::h=>k i h
def C4:Nat->(LN->b7 J)->b7 J
 |0,k=>k []
 |n+1,k=>bY λi=>C4 n λl=>k (i::l)
noncomputable def c7:(l:List β)->Nat->((a:β)->a∈l->b7 J)->b7 J
 |[],_,_=>λ_=>none
 |a::_,0,k=>k a mX
 |_::l,i+1,k=>c7 l i λb h=>k b (mZ _ h)
def C5 {a b:Bool}(h:(a && b)=true):a:=by simp_all
def C6 {a b:Bool}(h:(a && b)=true):b:=by simp_all
noncomputable def dU (c:Prop)[Decidable c](f:α)(k:c->J f):b7 J:=λh=>some (⟨f,decide c,λe=>k (xy e)⟩,h)
noncomputable def oE (k:∀x,J x->J' x)(m:b7 J):b7 J':=λh=>match m h with
 |some (⟨f,o,p⟩,h)=>some (⟨f,o,λe=>k f (p e)⟩,h)
 |none=>none
noncomputable def bT (c:Prop)[Decidable c](g:α->β)(k:c->∀x,J x->J1 (g x))(m:b7 J):b7 J1:=λh=>match m h with
 |some (⟨f,o,p⟩,h)=>some (⟨g f,decide c && o,λe=>k (xy (C5 e)) f (p (C6 e))⟩,h)
 |none=>none
def cr (c:Prop)[Decidable c](g:α->β->γ)(k:c->∀x y,J x->J1 y->J2 (g x y))(m:b7 J)(n:b7 J1):b7 J2:=λh=>match m h with
 |some (⟨f,o,p⟩,h)=>bT (c/\o) (g f) (λe y=>k e.1 f y (p e.2)) n h
 |none=>none
def yT (c:Prop)[Decidable c](g:α->β->γ->δ)(k:c->∀x y z,J x->J1 y->J2 z->J3 (g x y z))(m:b7 J)(n:b7 J1)(o:b7 J2):b7 J3:=λh=>match m h with
 |some (⟨f,b,p⟩,h)=>cr (c/\b) (g f) (λe y z=>k e.1 f y z (p e.2)) n o h
 |none=>none
end
abbrev oF (S:Sq)(i:Nat)(x:Str):Prop:=S.N[i]? = some x/\(S.sc.names.lookup x=some .local\/S.sc.names.lookup x=some .cell\/S.sc.names.lookup x=some .free)/\(x == ("__debug__" : Str))=false/\(x == ("__classdict__" : Str))=false
abbrev gI (S:Sq)(i:Nat)(x:Str):Prop:=S.N[i]? = some x/\(S.sc.names.lookup x=some .local\/S.sc.names.lookup x=some .cell)/\(S.fn\/S.sc.names.lookup x=some .local)
abbrev qN (S:Sq)(x y:Str):Prop:=x=y/\S.sc.names.lookup x=some .globalImplicit/\(x == ("__debug__" : Str))=false
abbrev gJ (S:Sq)(x y:Str):Prop:=qN S x y/\x∈S.g.no/\x ≠ "__name__"
noncomputable def bu:Expr->Bool
 |.Starred .. | .Slice .. | .Set .. | .SetComp .. | .DictComp ..=>false
 |_=>true
def qO:Expr->Bool
 |.ListComp ..=>false
 |e=>bu e
noncomputable def OY:Expr->Bool
 |.UnaryOp .Not .. | .BoolOp .. | .IfExp .. | .Compare ..=>false
 |_=>true
noncomputable def uw:Expr->Bool
 |.Call _ [] ..=>false
 |_=>true
section
variable {e:Expr}{es:QD}{env:PySem.Env}{p:Pos}
def aI (h:bu e):starEach (e::es) env=(false,eval e env)::starEach es env:=by cases e<;>first|rfl|cases h
theorem nH:∀ {es:QD},(∀e∈es,bu e)->(backTo p (starEach es env)).any (·.1)=false
 |[],_=>rr
 |e::es,h=>by
  have:=nH (es:=es) λa m=>h a (by simp[m]);rw[aI (h e H9)];simp_all [backTo]
def mr (h:bu e)(x:Value):foldedSetIterable e env x=pure x:=by cases e<;>first|rfl|cases h
def j6 {op:CmpOp}(h:bu e):behindInMarks op e=false:=by cases e<;>first|rfl|cases h
def mu (h:bu e):lP e:=by cases e<;>first|(intro _ _;rfl)|cases h
def ig {t:Expr}{n:Nat}(h:qO e):swapsWith e (some t) n env=pure false:=by cases e<;>first|rfl|cases h
def ij {a:Str}{w:Sem Value}(h:uw e):attributeBase e a env w=w:=by
 cases e with
 |Call f as=>cases as with
  |nil=>cases h
  |cons b l=>cases f<;>rfl
 |_=>rfl
def fM (h:bu e):((backTo p (starEach [e] env)).all (λx=>!x.1) && (backToKw p (keywordEach [] env)).all (λx=>x.1.isSome) && decide (([e]:QD).length+([]:List Keyword).length+(if([]:List Keyword).isEmpty then 0 else 1)<30))=true:=by
 rw[aI h];rfl
def HX (h:OY e)(M:Sem Value):isTrue e env M=(do let v <-M;standAt e.pos;holding [v] (truthy v)):=by
 cases e with
 |UnaryOp op=>cases op<;>first|rfl|cases h
 |_=>first|rfl|cases h
end
structure Bq where
 op:Operator
 f:D->D->OB
 p:∀ {X:Cx},cB X (binaryOp op) (rD X.K f)
structure Cq where
 op:CmpOp
 f:D->D->OB
 p:∀ {X:Cx},X.A.units+40<cLine->cB X (compareOp op) (rD X.K f)
structure Tq where
 x:Str
 n:String
 b:bootBuiltins x=some (.type n)
structure Fq where
 x:Str
 f:List D->OB
 c:∀ {X:Cx}{e:Expr}{es:List Expr}{fa:FA}{p q:Pos},X.calm->X.mg x=none->JA X (e::es) fa->Gl X x->x ≠ "__name__"->(x == ("__debug__" : Str))=false->starEach (e::es) X.env=(false,eval e X.env)::starEach es X.env->(backTo q (starEach es X.env)).any (·.1)=false->JE X (.Call (.Name x p) (e::es) [] q) (fA f fa)
noncomputable def mw {x:Str}{i:String}{f:LD->OB}(b:bootBuiltins x=some (.builtin i))(c:∀ {X:Cx},X.calm->bg X (.builtin i) (xA X.K f)):Fq:=⟨x,f,λh m a g n d s t=>G3 (c h) m b a g n d s t⟩
noncomputable def C7 {x:Str}{i:String}{f:LD->OB}(b:bootBuiltins x=some (.type i))(c:∀ {X:Cx},X.calm->bg X (.type i) (xA X.K f)):Fq:=⟨x,f,λh m a g n d s t=>Eh (c h) m b a g n d s t⟩
structure Uq where
 x:Str
 y:Str
 f:D->OB
 p:∀ {X:Cx}{e:Expr}{g:FE}{p p2 q q2:Pos},X.calm->X.mg x=none->X.mg y=none->JE X e g->Gl X x->Gl X y->starEach [e] X.env=[(false,eval e X.env)]->JE X (.Call (.Name x p) [.Call (.Name y p2) [e] [] q2] [] q) (f1 f g)
structure Mq where
 n:Str
 f:D->D->OB
 p:∀ {X:Cx}{o e:Expr}{fo fe:FE}{ap cp:Pos},X.A.units+1<cLine->JE X o fo->JE X e fe->uw o->bu e->ap.endLine == cp.line->JE X (.Call (.Attribute o n ap) [e] [] cp) (f2 f fo fe)
def R8:List Bq:=[⟨_,_,U3⟩,⟨_,_,QQ⟩,⟨_,_,U7⟩,⟨_,_,QL⟩,⟨_,_,U5⟩,⟨_,_,R3⟩,⟨_,_,QC⟩,⟨_,_,U6⟩]
def Bj:List Cq:=[⟨_,_,λ_=>UG⟩,⟨_,_,XM⟩,⟨_,_,λ_=>XO⟩,⟨_,_,λ_=>UF⟩,⟨_,_,λ_=>UI⟩,⟨_,_,XJ⟩,⟨_,_,λ_=>My⟩,⟨_,_,λ_=>XF⟩,⟨_,_,λ_=>XE⟩,⟨_,_,λ_=>G6⟩,⟨_,_,Vm⟩]
noncomputable def R9:List Tq:=[⟨_,_,OK⟩,⟨_,_,QM⟩,⟨_,_,Ce⟩,⟨_,_,UM⟩,⟨_,_,wl⟩]
def RA:List Fq:=[mw lY λ_=>wm,mw OJ λ_=>UC,mw UL λh=>UW h,mw lY λ_=>E8,C7 Ce λ_=>M8,C7 Rv λh=>Rw h,mw UY λh=>UX h,mw qt λh=>EL h,mw qt λ_=>Hi,C7 wl λ_=>Re,mw UK λh=>UQ h,C7 OK λ_=>Vg,mw UJ λh=>UP h]
def RB:List Uq:=[⟨_,_,_,λa b c d e f g=>AQ a b c d e f g⟩,⟨_,_,_,λa b c d e f g=>E3 a b c d e f g⟩,⟨_,_,_,λa b c d e f g=>Bi a b c d e f g rfl⟩,⟨_,_,_,λa b c d e f g=>yR a b c d e f g⟩]
def RC:List Mq:=[⟨_,_,λhu x y a b c=>Ht hu x y ⟨ij a,fM b,c,by rw[aI b];rfl⟩⟩,⟨_,_,λ_ x y a b c=>QU PySem.F.slot_str_join PySem.F.type_str_join QY GG x y (ij a) (fM b) c (aI b)⟩,⟨_,_,λ_ x y a b c=>R7 Yb x y (ij a) (fM b) c (aI b)⟩]
structure Rj where
 E:∀S e,b7 (uu S e)
 T:∀S e,b7 (yS S e)
 W:∀S e,b7 (OW S e)
noncomputable def HY (o sc:Scope):Scope:={ sc with names:=sc.names.map λ(n,k)=>if(k == .free && o.kind == .function && o.names.lookup n == some .cell)then (n,.cell)else (n,k) }
noncomputable def HZ (sc:Scope):LS:=sc.names.filterMap λy=>if y.2=.free then some y.1 else none
def wK (S:Sq)(N:LS)(sc:Scope):Sq:=⟨S.g,N,HY S.sc sc,HZ sc,S.k,false,S.q⟩
abbrev Vz (S:Sq)(N:LS)(sc M:Scope)(j i:Nat):Prop:=∃x∈N[j]?,S.N[i]? = some x/\(S.sc.names.lookup x=some .cell\/S.sc.names.lookup x=some .free)/\(M.names.lookup x=some .cell\/M.names.lookup x=some .free)/\(x,NameKind.free)∈sc.names/\x∈S.cl
noncomputable def qP (S:Sq)(N:LS)(sc M:Scope):Nat->LN->Bool
 |j,[]=>N.length=j
 |j,i::r=>Vz S N sc M j i && qP S N sc M (j+1) r
section
variable {S:Sq}{N:LS}{sc:Scope}
theorem nI (d:Yq S):∀ {cap:LN}{j:Nat},qP S N sc (HY S.sc sc) j cap->lM (bS S d) N sc (dD sc.names d.env.cells []) j cap
 |[],_,h=>.nil (xy h)
 |_::_,_,h=>let ⟨_,e,a,b,c,f,g⟩:=xy (C5 h);.cons e a b c (p6 f (d.cl _ g)) (nI d (C6 h))
abbrev Ia (S:Sq)(N:LS)(sc:Scope):Prop:=N.Nodup/\(∀y∈sc.names,y.2≠.cell)/\sc.kind=.function/\(∀y∈sc.names,y.2=.local->sc.names.lookup y.1=some .local)/\∀y∈sc.names,y.2=.free->y.1∈S.cl
def nJ (d:Yq S)(h:∀z∈sc.names,z.2=.free->z.1∈S.cl):(sc.names.all λy=>!(y.2 == NameKind.free) || (d.env.cells.lookup y.1).isSome)=true:=by
 rw[all_eq_true];intro y hy;cases hk:y.2 == NameKind.free with
 |false=>rfl
 |true=>exact d.cl _ (h y hy (by simpa using hk))
def yU (d:Yq S)(h:∀z∈sc.names,z.2=.free->z.1∈S.cl):∀x∈HZ sc,((dD sc.names d.env.cells []).lookup x).isSome:=λx hx=>by
 obtain⟨⟨M,k⟩,hy,e⟩:=mem_filterMap.mp hx;split at e
 .rename_i hk;cases e
  cases hk
  rw[p6 hy (d.cl _ (h _ hy rr))];exact d.cl _ (h _ hy rr)
 .cases e
def Yq.inn (d:Yq S)(h:Ia S N sc)(C:Addr)(s:Shared)(H:Hp)(fp:List Addr):Yq (wK S N sc):=⟨d.prog,d.w,d.K,d.mg,d.base,d.A,s,H,compEnvC sc (dD sc.names d.env.cells []) C { d.env with scope:=S.sc },d.stack,d.stack,fp,d.rm,yU d h.2.2.2.2,h.1,d.ok,d.ql⟩
end
section
variable (r:Rj) (S:Sq)
def qQ:(es:QD)->b7 λf=>∀d,JA (bS S d) es f
 |[]=>dU True av λ_ _=>ng
 |e::es=>cr (bu e) ai (λh _ _ x y d=>gG (x d) (y d) (aI h)) (r.E S e) (qQ es)
def OZ:(e:Option Expr)->b7 λf=>∀d,JO (bS S d) e f
 |none=>dU True tV λ_ _=>Mu
 |some e=>bT True qc (λ_ _ x d=>Mv (x d)) (r.E S e)
def Ib (i:Nat)(p:Pos):(a:Expr)->(ops:List CmpOp)->(bs:QD)->b7 λf=>uu S (.Compare a ops bs p) f/\yS S (.Compare a ops bs p) (bx f)
 |a,[op],[b]=>c7 Bj i λ⟨M,f,q⟩ _=>cr (op=M/\bu b) (f2 f) (λ⟨h,k⟩ _ _ x y=>by
   subst h;exact⟨λd=>Q0 (q (kJ d.rm)) (x d) (y d) (j6 k),λd=>Q1 (q (kJ d.rm)) (x d) (y d) (j6 k)⟩) (r.E S a) (r.E S b)
 |a,[op,M],[b,c]=>bY λj=>c7 Bj i λ⟨U,f,q⟩ _=>c7 Bj j λ⟨e,g,O⟩ _=>yT (op=U/\M=e/\bu c) (ju f g) (λ⟨h,h',k⟩ _ _ _ x y z=>by
   subst h h';have hm:lastMarks [op,M] [b,c]=false:=j6 k;exact⟨λd=>Gy (q (kJ d.rm)) (O (kJ d.rm)) (x d) (y d) (z d) hm,λd=>Gz (q (kJ d.rm)) (O (kJ d.rm)) (x d) (y d) (z d) hm⟩) (r.E S a) (r.E S b) (r.E S c)
 |_,_,_=>λ_=>none
def Pa (tg it:Expr):b7 λf=>∀d,JI (bS S d) tg it f:=bY λi=>match i,tg,it with
  |0,_,e=>bT True dn (λ_ _ x d=>QT (x d)) (r.E S e)
  |1,_,e=>bT True Bd (λ_ _ x d=>Na (x d)) (r.E S e)
  |2,_,.Call (.Name x _) [a] [] _=>bT (gJ S x "range"/\bu a) iJ (λ⟨⟨⟨h,g⟩,m⟩,n⟩ _ x d=>by subst h;exact GA (d.ok.no _ m.1) (x d) g.1 (aI n)) (r.E S a)
  |3,.Tuple ..,.Call (.Name x _) [a] [] _=>bT (gJ S x "enumerate"/\bu a) GQ (λ⟨⟨⟨h,g⟩,m⟩,n⟩ _ x d=>by subst h;exact MB (d.ok.no _ m.1) (x d) g.1 (aI n)) (r.E S a)
  |4,.Tuple ..,.Call (.Name x _) [a,b] [] _=>cr (gJ S x "zip"/\bu a/\bu b) GK (λ⟨⟨⟨h,g⟩,m⟩,n,k⟩ _ _ x y d=>by subst h;exact Rb (d.ok.no _ m.1) (x d) (y d) g.1 (by rw[aI n,aI k];rfl) (aI k)) (r.E S a) (r.E S b)
  |5,_,.Call (.Attribute e n ap) [] [] cp=>bT (n = "values"/\uw e/\ap.endLine == cp.line) wH (λ⟨h,n,l⟩ _ x d=>by subst h;exact MZ (x d) (ij n) l) (r.E S e)
  |6,.Tuple ..,.Call (.Attribute e n ap) [] [] cp=>bT (n = "items"/\uw e/\ap.endLine == cp.line) wJ (λ⟨h,n,l⟩ _ x d=>by subst h;exact HP (x d) (ij n) l) (r.E S e)
  |_,_,_=>λ_=>none
def V0:(es:QD)->b7 λf=>∀d,JC (bS S d) es f
 |[]=>dU True xU λ_ _=>Qu
 |[e]=>oE (λ_ x d=>Qv (x d)) (r.T S e)
 |_=>λ_=>none
theorem C8 (d:Yq S){i:Nat}{x:Str}{p:Pos}(h:gI S i x):PG (bS S d) (.Name x p) (gY i):=pgV i d.nd h.1 h.2.1 h.2.2
theorem Pb (d:Yq S){i j k:Nat}{x y:Str}{p q s:Pos}(h:gI S i x)(g:gI S j y):PG (bS S d) (.Tuple [.Name x p,.Name y q] k s) (FN d.K 2 (lm [i,j])):=Ap rr (gZ (C8 S d h) (gZ (C8 S d g) vi))
def V1:(tg:Expr)->Option ((N:LS) ×' (n:Nat) ×' (M:FG) ×' ∀S:Sq,(∀i (h:i<N.length),gI S i N[i])->∃t:Frag->TG,(∀d:Yq S,PG (bS S d) tg (t d.K))/\∀K,Mg K n M (t K))
 |.Name x _=>some ⟨[x],1,f7 0,λ_ h=>⟨λ_=>gY 0,λd=>C8 _ d (h 0 H9),λ_=>pW O9⟩⟩
 |.Tuple [.Name x _,.Name y _] _ _=>some ⟨[x,y],2,FD [0,1],λ_ h=>⟨λK=>FN K 2 (lm [0,1]),λd=>Pb _ d (h 0 H9) (h 1 H9),λ_=>GI O9⟩⟩
 |_=>none
abbrev V2 (S:Sq)(e:Expr)(f:FE):Prop:=uu S e f/\∀y M sp i,gI S i y->(∀d:Yq S,swapsWith e (some (.Name y M)) sp.line (bS S d).env=pure true)->S.sc.names.lookup y=some .local->HW S (.Assign [.Name y M] e sp) (dO i f)
def Ic (U tg it:Expr)(e:QD)(f:Int)(sc:Scope)(p:Pos):b7 (V2 S (.ListComp U [⟨tg,it,e,f⟩] sc p)):=bY λn=>C4 n λcap=>match V1 tg with
 |none=>λ_=>none
 |some ⟨N,n,g,q⟩=>(λM h=>match Pa r S tg it h with
  |none=>none
  |some (⟨fi,o,a⟩,h)=>cr (f=0/\bu it/\o/\Ia S M sc/\qP S M sc (HY S.sc sc) n cap/\∀i (h:i<N.length),gI (wK S M sc) i N[i]) (fW fi n cap g) (λ⟨h,hn,o,O,hc,j⟩ _ _ b c=>by
    subst h;obtain⟨t,pg,tg⟩:=q _ j;exact⟨λd=>Vt _ (a o d) (b (d.inn O _ _ _ _)) (c (d.inn O _ _ _ _)) (tg _) (pg (d.inn O _ _ _ _)) (nI d hc) (Nb O.2.1 O.2.2.1 O.2.2.2.1 (nJ d O.2.2.2.2)) rr λx=>mr hn x,
     λ_ _ _ _ hy hs hl d=>Vu _ d.nd (a o d) (b (d.inn O _ _ _ _)) (c (d.inn O _ _ _ _)) (tg _) (pg (d.inn O _ _ _ _)) (nI d hc) hy.1 hl (hs d) (Nb O.2.1 O.2.2.1 O.2.2.2.1 (nJ d O.2.2.2.2)) rr λx=>mr hn x⟩) (V0 r (wK S M sc) e) (r.E (wK S M sc) U) h) (N++cap.map (S.N.getD · ""))
end
section
variable (r:Rj) (S:Sq)
theorem Ie {q y:Str}{an:Option Expr}{ap:Pos}{b:Expr}{sc:Scope}{cl:List (Str×Addr)}{pm M u:Value}{c:Addr}:bindArgs (PySem.W.kla_fn "<lambda>" q ⟨[],[⟨y,an,ap⟩],none,[],[],none,[]⟩ b sc cl pm (.ref c) M) ⟨[u],[]⟩=pure [(y,u)]:=by
 have e:List.lookup y [(y,u)]=some u:=H9
 unfold bindArgs PySem.W.kla_fn;simp[seqItems?];rfl
theorem ux {S:Sq}{N:LS}{sc:Scope}(hn:∀z∈sc.names,z.2≠.cell)(d:Yq S):∀ {cap:LN}{j:Nat},qP S N sc sc j cap->jT (bS S d) N sc (dD sc.names d.env.cells []) j cap
 |[],_,h=>.nil (xy h)
 |_::_,_,h=>let ⟨_,e,a,b,c,f,g⟩:=xy (C5 h);.cons e a b (c.resolve_left λz=>hn _ (PySem.mem_of_lookup z) rr) (p6 f (d.cl _ g)) (ux hn d (C6 h))
def Ig (S:Sq)(N:LS)(sc:Scope):Sq:=⟨S.g,N,sc,HZ sc,S.k - 3,false,none⟩
abbrev Ih (S:Sq)(N:LS)(sc:Scope)(y:Str)(cap:LN):Prop:=N.Nodup/\(∀z∈sc.names,z.2≠.cell)/\sc.kind=.function/\sc.isCoroutine=false/\sc.isGenerator=false/\sc.names.lookup y=some .local/\(∀z∈sc.names,z.2=.free->z.1∈S.cl)/\3<=S.k/\(∃x∈S.q,x∈jr/\x∈S.g.ls)/\qP S N sc sc 1 cap
theorem yV {S:Sq}{N:LS}{sc:Scope}{y:Str}{ap p:Pos}{an:Option Expr}{b:Expr}{U:FE}{cap:LN}(h:Ih S (y::N) sc y cap)(hb:uu (Ig S (y::N) sc) b U)(d:Yq S){A:Around}(e:A.frames=d.A.frames)(g:dq (S.k - 3+1) A):
  JK (bS S d) A (.Lambda ⟨[],[⟨y,an,ap⟩],none,[],[],none,[]⟩ b sc p) (yJ cap U):=
 let ⟨h1,h2,h3,h4,h5,i,a,_,⟨x,hx,j,M⟩,hc⟩:=h
 Rq j (d.ok.ls _ M) (d.ql x hx).2 (by rw[(d.ql x hx).1];rfl) rr (Vi h2 h3 h4 h5 i (nJ d a)) rr (ux h2 d hc) e g (λ_ _ _ _=>Ie) λf c s H O=>hb ⟨d.prog,d.w,d.K,d.mg,d.base,_,s,H,PySem.W.envX _ sc _ f _ _,d.stack,_,[],O,yU d a,h1,d.ok,λ_ z=>nomatch z⟩
def C9:(O:Expr)->b7 λkf=>∀d:Yq S,JK (bS S d) d.A.in1 O kf/\JK (bS S d) d.A.in1.in1 O kf
 |.Name x _=>bY λj=>c7 S.g.fs j λ⟨y,k,F⟩ m=>dU (qN S x y/\k+2<=S.k) (E6 F) λ⟨⟨e,h⟩,hk⟩ d=>by
   subst e;exact⟨OP (d.ok.fs _ m) ((d.rm.mono (vR (le_succ _) hk)).in1) rr h.1 h.2,OP (d.ok.fs _ m) ((d.rm.mono hk).in1.in1) rr h.1 h.2⟩
 |.Lambda ⟨[],[⟨y,an,ap⟩],none,[],[],none,[]⟩ b sc p=>bY λn=>C4 n λcap=>bT (Ih S (y::cap.map (S.N.getD · "")) sc y cap) (yJ cap) (λM _ q d=>by
    have hk:S.k - 3+2+1<=S.k:=by have:=M.2.2.2.2.2.2.2.1;lia
    exact⟨yV M q d rr ((d.rm.mono hk).in1.mono (le_succ _)),yV M q d rr (d.rm.mono hk).in1.in1⟩) (r.E (Ig S (y::cap.map (S.N.getD · "")) sc) b)
 |_=>λ_=>none
def RD (p:Pos):(f:Expr)->(as:QD)->(ks:List Keyword)->b7 (uu S (.Call f as ks p))
 |.Name x _,e::es,[]=>bY λi=>
  if i<100 then c7 S.g.fs i λ⟨y,k,F⟩ m=>bT (qN S x y/\k<=S.k/\∀a∈e::es,bu a) (fA F) (λ⟨⟨u,h⟩,hk,hn⟩ _ a d=>by
   subst u;exact Vq (d.ok.fs _ m) d.rm (a d) hk h.1 h.2 (aI (hn e H9)) (nH λa m=>hn a (by simp[m]))) (qQ r S (e::es))
  else if i<140 then c7 RA (i - 100) λ⟨y,f,c⟩ _=>bT (gJ S x y/\∀a∈e::es,bu a) (fA f) (λ⟨⟨⟨u,h⟩,k⟩,hn⟩ _ a d=>by
   subst u;exact c rr (d.ok.no _ k.1) (a d) h.1 k.2 h.2 (aI (hn e H9)) (nH λa m=>hn a (by simp[m]))) (qQ r S (e::es))
  else match e,es with
   |.Call (.Name y _) [e] [] _,[]=>c7 RB (i - 140) λ⟨O,U,f,q⟩ _=>bT (gJ S x O/\gJ S y U/\bu e) (f1 f) (λ⟨⟨⟨u,h⟩,k⟩,⟨⟨v,g⟩,l⟩,n⟩ _ a d=>by
    subst u v;exact q rr (d.ok.no _ k.1) (d.ok.no _ l.1) (a d) h.1 g.1 (aI n)) (r.E S e)
   |.Call (.Name y _) [a,b] [] _,[]=>cr (gJ S x "list"/\gJ S y "zip"/\bu a/\bu b) ZN (λ⟨⟨⟨u,h⟩,k⟩,⟨⟨v,g⟩,l⟩,n,m⟩ _ _ a b d=>by
    subst u v;exact Ba rr (d.ok.no _ k.1) (d.ok.no _ l.1) (a d) (b d) h.1 g.1 (by rw[aI n,aI m];rfl) (aI m) rr) (r.E S a) (r.E S b)
   |_,_=>λ_=>none
 |.Name x _,[e],[⟨some ka,M,_⟩]=>bY λi=>match i with
  |0=>cr (gJ S x "max"/\ka = "key"/\bu e) Cw (λ⟨⟨⟨u,h⟩,k⟩,v,n⟩ _ _ a b d=>by
   subst u v;exact OS mmx (d.ok.no _ k.1) (a d) (b d).1 d.rm h.1 (aI n) (by rw[aI n];rfl) (by rw[aI n];rfl) rr rr rr) (r.E S e) (C9 r S M)
  |1=>cr (gJ S x "min"/\ka = "key"/\bu e) Cy (λ⟨⟨⟨u,h⟩,k⟩,v,n⟩ _ _ a b d=>by
   subst u v;exact OS mmn (d.ok.no _ k.1) (a d) (b d).1 d.rm h.1 (aI n) (by rw[aI n];rfl) (by rw[aI n];rfl) rr rr rr) (r.E S e) (C9 r S M)
  |3=>cr (gJ S x "sorted"/\ka = "key"/\bu e) Be (λ⟨⟨⟨u,h⟩,k⟩,v,n⟩ _ _ a b d=>by
   subst u v;exact OQ (HL (kJ d.rm)) (d.ok.no _ k.1) (a d) (b d).2 h.1 (aI n) (by rw[aI n];rfl) (by rw[aI n];rfl) rr rr rr) (r.E S e) (C9 r S M)
  |_=>cr (gJ S x "sorted"/\ka = "key"/\bu e) wE (λ⟨⟨⟨u,h⟩,k⟩,v,n⟩ _ _ a b d=>by
   subst u v;exact OQ Rr (d.ok.no _ k.1) (a d) (b d).2 h.1 (aI n) (by rw[aI n];rfl) (by rw[aI n];rfl) rr rr rr) (r.E S e) (C9 r S M)
 |.Attribute o n ap,[e],[]=>bY λi=>match i,o,e with
  |9,o,.Tuple es _ _=>cr (n = "get"/\uw o/\ap.endLine == p.line) HG (λ⟨u,a,l⟩ _ _ x y d=>by subst u;exact HH (OT (kJ d.rm)) (x d) (y d) ⟨ij a,rr,l,rr⟩) (r.E S o) (qQ r S es)
  |i+10,.Subscript (.Name x _) b _,e=>c7 S.g.ds i λ⟨y,c⟩ m=>cr (qN S x y/\n = "index"/\bu b/\bu e/\ap.endLine == p.line) (f2 (ly c)) (λ⟨⟨u,h⟩,v,hb,he,hl⟩ _ _ a b d=>by
   subst u v;exact MG (d.ok.ds _ m) (a d) (b d) h.1 h.2 (mu hb) rr (fM he) hl (aI he)) (r.E S b) (r.E S e)
  |i,o,e=>c7 RC i λ⟨j,f,q⟩ _=>cr (n=j/\uw o/\bu e/\ap.endLine == p.line) (f2 f) (λ⟨u,a,b,l⟩ _ _ x y d=>by subst u;exact q (OT (kJ d.rm)) (x d) (y d) a b l) (r.E S o) (r.E S e)
 |_,_,_=>λ_=>none
def RE:(e:Expr)->b7 (uu S e)
 |.Name x _=>bY λi=>
  if i<50 then dU (oF S i x) (am i) λh _=>Qw i h.1 h.2.1 h.2.2.1 h.2.2.2
  else if i<80 then c7 S.g.cs (i - 50) λ⟨y,c⟩ m=>dU (qN S x y) (fC c) λ⟨u,h⟩ d=>by subst u;exact G4 (d.ok.cs _ m) h.1 h.2
  else c7 R9 (i - 80) λ⟨y,n,b⟩ _=>dU (gJ S x y) (fC (.ty n)) λ⟨⟨u,h⟩,k⟩ d=>by subst u;exact UD (d.ok.no _ k.1) b h.1 k.2 h.2
 |.Constant (.int _) ..=>dU True _ λ_ _=>Qx
 |.Constant (.bool _) ..=>dU True _ λ_ _=>Uu
 |.Constant .none ..=>dU True _ λ_ _=>Qy
 |.Constant (.str _) ..=>dU True _ λ_ _=>Qz
 |.BoolOp _ [a] _=>oE (λ_ x d=>Q8 (x d)) (r.E S a)
 |.BoolOp .And (a::b::t) p=>cr True G0 (λ_ _ _ x y d=>Q7 (x d) (y d)) (r.E S a) (r.E S (.BoolOp .And (b::t) p))
 |.BoolOp .Or (a::b::t) p=>cr True Uy (λ_ _ _ x y d=>Uz (x d) (y d)) (r.E S a) (r.E S (.BoolOp .Or (b::t) p))
 |.UnaryOp .Not a _=>bT True G1 (λ_ _ x d=>Q9 (x d)) (r.E S a)
 |.UnaryOp .USub a _=>bT True (f1 Mx) (λ_ _ x d=>Uw UH (x d)) (r.E S a)
 |.BinOp a op b _=>bY λi=>c7 R8 i λ⟨M,f,q⟩ _=>cr (op=M) (f2 f) (λh _ _ x y d=>by subst h;exact Uv q (x d) (y d)) (r.E S a) (r.E S b)
 |.Compare a ops bs p=>bY λi=>if i<20 then oE (λ_ h=>h.1) (Ib r S i p a ops bs)else match ops,bs with
  |[.In],[b]=>cr (bu b) (f2 ZM) (λh _ _ x y d=>R1 (OT (kJ d.rm)) (x d) (y d) (j6 h)) (r.E S a) (r.E S b)
  |_,_=>λ_=>none
 |.Subscript a (.Slice lo hi none _) _=>yT True M3 (λ_ _ _ _ x y z d=>GD (x d) (y d) (z d)) (r.E S a) (OZ r S lo) (OZ r S hi)
 |.Subscript a b _=>bY λi=>match i,a with
  |0,a=>cr (bu b) (f2 eA) (λh _ _ x y d=>UB (x d) (y d) (mu h)) (r.E S a) (r.E S b)
  |1,a=>cr (bu b) (f2 XW) (λh _ _ x y d=>Ru (OT (kJ d.rm)) (x d) (y d) (mu h)) (r.E S a) (r.E S b)
  |i+2,.Name x _=>c7 S.g.ds i λ⟨y,c⟩ m=>bT (qN S x y/\bu b) (f1 (yp c)) (λ⟨⟨u,h⟩,n⟩ _ x d=>by subst u;exact M6 (d.ok.ds _ m) (x d) h.1 h.2 (mu n)) (r.E S b)
  |_,_=>λ_=>none
 |.Tuple es _ _=>bT True (fA bX) (λ_ _ x d=>QA (x d)) (qQ r S es)
 |.List es _=>bT True (fA dJ) (λ_ _ x d=>QB (x d)) (qQ r S es)
 |.ListComp O [⟨tg,it,U,j⟩] sc p=>oE (λ_ h=>h.1) (Ic r S O tg it U j sc p)
 |.Call f as ks p=>RD r S p f as ks
 |_=>λ_=>none
def RF:(e:Expr)->b7 (yS S e)
 |.UnaryOp .Not a _=>bT True jh (λ_ _ x d=>Q6 (x d)) (r.T S a)
 |.BoolOp op es p=>oE (λ_ x d=>X8 (x d)) (r.W S (.BoolOp op es p))
 |.Compare a ops bs p=>bY λi=>if i<20 then bT True bx (λ_ _ h=>h.2) (Ib r S i p a ops bs)else match i,ops,bs with
  |20,[.NotIn],[b]=>bT True bx (λ_ _ x=>x) (cr (J2:=λf=>yS S (.Compare a [.NotIn] [b] p) (bx f)) (bu b) (f2 wF) (λh _ _ x y d=>E9 (OT (kJ d.rm)) (x d) (y d) (j6 h)) (r.E S a) (r.E S b))
  |i,[.NotIn],[.Name x q]=>c7 S.g.ds (i - 30) λ⟨y,c⟩ m=>bT True bx (λ_ _ x=>x) (bT (J1:=λf=>yS S (.Compare a [.NotIn] [.Name x q] p) (bx f)) (qN S x y) (f1 (AF c)) (λ⟨u,h⟩ _ x d=>by subst u;exact E5 (d.ok.ds _ m) (x d) h.1 h.2 rr) (r.E S a))
  |_,_,_=>λ_=>none
 |e=>bT (OY e) bx (λh _ x d=>Q2 (x d) (HX h)) (r.E S e)
def RG:(e:Expr)->b7 (OW S e)
 |.BoolOp .Or [a] _=>oE (λ_ x d=>Q4 (x d)) (r.T S a)
 |.BoolOp .Or (a::b::t) p=>cr True iF (λ_ _ _ x y d=>Ux (x d) (y d)) (r.T S a) (r.W S (.BoolOp .Or (b::t) p))
 |.BoolOp .And [a] _=>oE (λ_ x d=>Mm (x d)) (r.T S a)
 |.BoolOp .And (a::b::t) p=>cr True fg (λ_ _ _ x y d=>Q5 (x d) (y d)) (r.T S a) (r.W S (.BoolOp .And (b::t) p))
 |_=>λ_=>none
end
def CA:Nat->Rj
 |0=>⟨λ_ _ _=>none,λ_ _ _=>none,λ_ _ _=>none⟩
 |n+1=>⟨RE (CA n),RF (CA n),RG (CA n)⟩
def Pc (S:Sq):(tg:Expr)->b7 λM=>∀d:Yq S,∃t,PG (bS S d) tg t/\Lh d.K M t
 |.Name x _=>bY λi=>dU (gI S i x) (f7 i) λh d=>⟨_,C8 S d h,Gv⟩
 |.Tuple [.Name x _,.Name y _] _ _=>bY λi=>bY λj=>dU (gI S i x/\gI S j y) (FD [i,j]) λh d=>⟨_,Pb S d h.1 h.2,Vb⟩
 |_=>λ_=>none
section
variable (B:∀S b,b7 (OX S b)) (S:Sq)
abbrev eD:Rj:=CA 24
def Ii (p:Pos)(tg it:Expr)(b:List Stmt):b7 (HW S (.For tg it b [] p)):=bY λi=>match i,it with
 |0,it=>yT (bu it) xR (λh _ _ _ x y z d=>let ⟨_,a,k⟩:=y d;Vv (x d) a k (z d) PassesOwn.never rr λx=>mr h x) (Pa eD S tg it) (Pc S tg) (B S b)
 |_,.Call (.Name x _) [a] [] _=>yT (gJ S x "range"/\bu a) tS (λ⟨⟨⟨u,h⟩,k⟩,n⟩ _ _ _ x y z d=>by
   subst u;obtain⟨t,a,l⟩:=y d;exact Vw (x d h.1 (d.ok.no _ k.1) (aI n)) a l (z d) PassesOwn.never rr λx=>mr rr x)
   (bT (J1:=λf=>∀d:Yq S,Gl (bS S d) "range"->d.mg "range" = none->starEach [a] (bS S d).env=[(false,eval a (bS S d).env)]->∀ {p q:Pos},PI (bS S d) tg (.Call (.Name "range" q) [a] [] p) (Ut d.K f)) True iJ (λ_ _ x d h m n _ _=>yi m (x d) h n) (eD.E S a)) (Pc S tg) (B S b)
 |_,_=>λ_=>none
def Ij:(st:Stmt)->b7 (HW S st)
 |.Return (some e) _=>bY λi=>match i,e with
  |0,e=>bT True xP (λ_ _ x d=>QH (x d)) (eD.E S e)
  |i+1,.Name x _=>dU (oF S i x) (o5 i) λh _=>Mp i h.1 h.2.1 h.2.2.1 h.2.2.2
  |_,_=>λ_=>none
 |.If c a b _=>yT True A6 (λ_ _ _ _ x y z d=>U9 (x d) (y d) (z d)) (eD.T S c) (B S a) (B S b)
 |.Assign [.Name x q] (.ListComp M [⟨tg,it,O,U⟩] sc p) sp=>bY λi=>if i<50 then bT (gI S i x/\S.sc.names.lookup x=some .local/\S.sc.kind=.function/\(q.line == p.line)/\(sc.names.any λ(n,k)=>n == x && (k == .local || k == .cell))=false) (dO i) (λh _ y=>y.2 _ _ _ _ h.1 (λd=>by
   show pure ((if S.sc.kind.isAnnotationScope then ScopeKind.function else S.sc.kind) == ScopeKind.function && S.sc.names.lookup x == some NameKind.local && q.line == p.line && !(sc.names.any λ(n,k)=>n == x && (k == .local || k == .cell)))=_;rw[h.2.2.2.2,h.2.2.2.1,h.2.1,h.2.2.1];rfl) h.2.1) (Ic eD S M tg it O U sc p)
  else λ_=>none
 |.Assign [.Name x _] (.Dict [] [] _) _=>bY λv=>bY λi=>match v with
  |0=>dU (gI S i x) (Hu i) λh d=>MP d.nd h.1 h.2.1 rr h.2.2
  |1=>dU (gI S i x) (Hv i) λh d=>MQ d.nd h.1 h.2.1 rr h.2.2
  |_=>λ_=>none
 |.Assign [.Name x _] e _=>bY λv=>bY λi=>match v with
  |0=>bT (gI S i x/\qO e) (dO i) (λh _ x d=>QI d.nd (x d) h.1.1 h.1.2.1 (ig h.2) h.1.2.2) (eD.E S e)
  |1=>bT (gI S i x/\qO e) (BV i) (λh _ x d=>Mr d.nd (x d) h.1.1 h.1.2.1 (ig h.2) h.1.2.2) (eD.E S e)
  |_=>λ_=>none
 |.Assign [.Subscript (.Name y _) k _] e _=>bY λv=>bY λi=>match v,k with
  |0,k=>cr (oF S i y/\bu k/\qO e) (M9 i) (λh _ _ x z d=>Rf (z d) (x d) h.1.1 h.1.2.1 h.1.2.2.1 h.1.2.2.2 (by have:=h.2.1;intro _;cases k<;>first|rfl|cases this) (by unfold swapsWithSole;exact ig h.2.2) rr rr) (eD.E S k) (eD.E S e)
  |1,k=>cr (oF S i y/\qO e) (yL i) (λh _ _ x z d=>MT (OT (kJ d.rm)) (z d) (x d) h.1.1 h.1.2.1 h.1.2.2.1 h.1.2.2.2 (ig h.2)) (eD.E S k) (eD.E S e)
  |2,k=>cr (oF S i y/\qO e) (qL i) (λh _ _ x z d=>HQ (OT (kJ d.rm)) (z d) (x d) h.1.1 h.1.2.1 h.1.2.2.1 h.1.2.2.2 (ig h.2)) (eD.E S k) (eD.E S e)
  |3,.Tuple es _ _=>cr (oF S i y/\qO e) (uq i) (λh _ _ x z d=>MU (OT (kJ d.rm)) (z d) (x d) h.1.1 h.1.2.1 h.1.2.2.1 h.1.2.2.2 (ig h.2)) (qQ eD S es) (eD.E S e)
  |_,_=>λ_=>none
 |.For tg it b [] p=>bY λn=>match n with
  |0=>Ii B S p tg it b
  |n=>C4 n λu=>bT True (Vd u) (λ_ _ x d=>Ve u (x d)) (Ii B S p tg it b)
 |.While c b [] _=>bY λn h=>match eD.T S c h with
  |none=>none
  |some (⟨f,o,p⟩,h)=>match B S b h with
   |none=>none
   |some (⟨g,o',j⟩,h)=>some (⟨fT f g n,o && o',λe d=>G2 n PassesOwn.never (p (C5 e) d) (j (C6 e) d)⟩,h)
 |.Expr (.Call (.Attribute (.Name x _) m ap) [e] [] cp) _=>bY λv=>bY λi=>match v with
  |0=>bT (oF S i x/\m = "append"/\bu e/\ap.endLine == cp.line) (v0 i) (λ⟨h,u,n,l⟩ _ x d=>by subst u;exact QK (x d) h.1 h.2.1 h.2.2.1 h.2.2.2 rr (fM n) l (aI n) rr) (eD.E S e)
  |1=>bT (oF S i x/\m = "extend"/\bu e/\ap.endLine == cp.line) (GO i) (λ⟨h,u,n,l⟩ _ x d=>by subst u;exact Rh (x d) h.1 h.2.1 h.2.2.1 h.2.2.2 rr (fM n) l (aI n) rr) (eD.E S e)
  |_=>λ_=>none
 |.Raise ..=>dU True qh λ_ _=>GL
 |.Continue _=>dU True OM λ_ _=>M5
 |_=>λ_=>none
end
def qR:Nat->∀S b,b7 (OX S b)
 |0,_,_=>λ_=>none
 |_+1,_,[]=>dU True o4 λ_ _=>QF
 |n+1,S,[st]=>oE (λ_ x d=>QG (x d)) (Ij (qR n) S st)
 |n+1,S,st::t::l=>cr True cx (λ_ _ _ x y d=>Mo (x d) (y d)) (Ij (qR n) S st) (qR n S (t::l))
noncomputable def Bk {α:Type}{J:α->Prop}:Option (Oj J×LN)->Option α
 |some (⟨f,_,_⟩,_)=>some f
 |none=>none
noncomputable def Bl {α:Type}{J:α->Prop}:Option (Oj J×LN)->Bool
 |some (⟨_,o,_⟩,_)=>o
 |none=>false
theorem Ni {α:Type}{J:α->Prop}{g:α}:∀ {o:Option (Oj J×LN)},Bl o=true->J ((Bk o).getD g)
 |some (⟨_,_,p⟩,_),k=>p k
@[simp] noncomputable abbrev ay (o:Option FS)(g:FS)(_:o=some g):FS:=g
noncomputable def V3 (n:Nat)(l:List Stmt):List Stmt:=
 match l[n / 2]?,n % 2 with
 |some (.For _ _ b _ _),_=>b
 |some (.While _ b _ _),_=>b
 |some (.If _ a _ _),0=>a
 |some (.If _ _ b _),_=>b
 |_,_=>[]
structure Wq where
 G:Gq
 x:Str
 st:Stmt
 N:List Str
 k:Nat
 h:List Nat
def Wq.S (w:Wq):Sq:=⟨w.G,w.N,aC w.st,(aC w.st).names.filterMap λy=>if(aC w.st).names.lookup y.1=some .cell then some y.1 else none,w.k,true,if w.x∈w.G.ls then some w.x else none⟩
def Wq.r (w:Wq):Option FS:=Bk (qR 40 w.S (bF w.st) w.h)
def Wq.b (w:Wq)(l h:LN):Option FS:=Bk (qR 40 w.S (l.foldl (λl n=>V3 n l) (bF w.st)) h)
noncomputable def Wq.gt (w:Wq)(F:LD->OB):Gq:=⟨(w.x,w.k+1,F)::w.G.fs,w.G.cs,w.G.ds,w.G.no,w.G.ls⟩
section
variable {P:Program}{w:World}{K:Frag}{mg:SV}{base:Heap}
abbrev mz (w:World)(K:Frag)(mg:SV)(g:Gq):Prop:=∀ {P base},g.Ok P w K mg base
def Wq.js (W:Wq)(o:Bl (qR 40 W.S (bF W.st) W.h))(M:W.G.Ok P w K mg base)
  {f:Addr}{dA:Value}{A:Around}{outer:List PySem.Env}{s:Shared}{H:Hp}{E:XK}(nd:W.N.Nodup) (O:dq W.k (A.deeper (envOfC W.x (aC W.st) s.z f dA))) (hc:W.x∈W.G.ls->∀c P,PySem.W.tabIn K W.x=some (c,P)->dA=.ref c):
  xB (pf xK P w K mg base W.N W.x (aC W.st) f dA A outer s H E).nox (bF W.st) (W.r.getD qh):=by
 refine Ni o ⟨P,w,K,mg,base,_,s,H,envOfC _ _ _ f _,outer,envOfC _ _ _ f _::outer,[],O,λy hy=>?_,nd,M,λy e=>?_⟩
 .obtain⟨z,hz,e⟩:=mem_filterMap.mp hy;split at e
  .cases e;exact Option.isSome_iff_exists.mpr (pO ‹_›)
  .cases e
 .have e:(if W.x∈W.G.ls then some _ else none)=some y:=e;split at e
  .cases e;exact⟨rr,hc ‹_›⟩
  .cases e
def Wq.o {O:LD->OB}(W:Wq)(F:bQ K W.x W.st)(U:mz w K mg W.G)(n:Nat)
  (o:Bl (qR 40 W.S (bF W.st) W.h):=by decide +kernel)
  (S:FnScope W.N (W.N.take n) (aC W.st):=by refine⟨rr,rr,rr,?_,rr,?_,?_⟩<;>decide +kernel)
  (M:∀(kV doc pm:Value)(an:Option Addr)(dA ct:Value)(us:LU),us.length=(W.N.take n).length->bindArgs (fnOf W.x W.x (eU W.st) (bF W.st) (aC W.st) .none kV doc pm an dA ct) ⟨us,[]⟩=pure ((W.N.take n).zip us):=by
   exact λ_ _ _ _ _ _=>R0 _ _ (by(repeat intro);rfl))
  (e:ax (W.r.getD qh) (W.N.take n).length (W.N.length - (W.N.take n).length)=O:=by kernel_rfl):mz w K mg (W.gt O):=λ{P base}=>
 have q:=U
 ⟨q.hx,λt h=>by
  rcases vP h with h|h
  .subst h;exact F.fqL q.hx _ _ n (λnd a _ hc=>W.js o q nd a λ_=>hc) S M e
  .exact q.fs _ h,q.cs,q.ds,q.no,q.ls⟩
end
end DL
namespace DL
open PySem L2
def dW (I:Nat->Env->Prop)(ds:LD)(O:Env)(h0:I 0 O)
  (step:∀i d ρ,ds[i]? = some d->I i ρ->∃M ρ',tg d ρ=some M/\(g M=some (.nx ρ')\/g M=some (.ct ρ'))/\I (i+1) ρ'):
  ∃ρ',f8 tg g ds O=some (.nx ρ')/\I ds.length ρ':=by
 have key:∀(es:LD)(i:Nat)(ρ:Env),ds.drop i=es->i+es.length=ds.length->I i ρ->∃ρ',f8 tg g es ρ=some (.nx ρ')/\I ds.length ρ':=by
  intro es;induction es with
  |nil=>simp_all
  |cons d es a=>
   intro i ρ e hl h;have hd:ds[i]? = some d:=by
    have:(ds.drop i)[0]? = some d:=by rw[e];rfl
    grind
   obtain⟨M,ρ',h1,h2,h3⟩:=step i d ρ hd h;have he:ds.drop (i+1)=es:=by rw[<-List.drop_drop,e];rfl
   obtain⟨U,k1,k2⟩:=a _ _ he (by simp at hl;lia) h3;refine⟨U,?_,k2⟩;simp_all<;>lia
 exact key ds 0 _ H9 H9 h0
def qS (n:Nat)(I:Nat->Env->Prop)(O:Env)(h0:I 0 O)
  (step:∀(i:Nat) ρ,i<n->I i ρ->∃M ρ',tg (.int (i:Int)) ρ=some M/\(g M=some (.nx ρ')\/g M=some (.ct ρ'))/\I (i+1) ρ'):
  ∃ρ',f8 tg g (fZ 0 n) O=some (.nx ρ')/\I n ρ':=by
 have hl:(fZ 0 n).length=n:=by simp[fZ]
 obtain⟨ρ',h1,h2⟩:=dW I (fZ 0 n) _ h0 λi d ρ hd h=>by
  unfold fZ at hd;rw[vA]at hd;obtain⟨k,hk,hd⟩:=oY hd;obtain⟨U,hk⟩:=vV hk;rw[length_range]at U;rw[List.getElem_range]at hk;subst hk;rw[Int.zero_add]at hd;subst hd;exact step i ρ U h
 simp_all
def iR {α:Type}{xs:List α}{j:Nat}(h:j<xs.length):mQ xs (j:Int)=some xs[j]:=LH (by simp )
def wL {α:Type}{xs:List α}{i:Int}(h0:0<=i)(h:i.toNat<xs.length):mQ xs i=some xs[i.toNat]:=by
 have:=iR h;rwa [Int.toNat_of_nonneg h0]at this
@[simp] def Pd (xs:LI):aZ (xs.map D.int)=true:=by
 induction xs with
 |nil=>simp
 |cons x xs M=>simp[M]
@[simp] def Lj (n:Nat)(xs:LI):(xs.map D.int).all (aQ n)=true:=by
 simp
@[simp] def Nj (xs:LI):(xs.map D.int).all fY=true:=by
 simp
def uy (n:Nat):fZ 0 n=((List.range n).map λ(k:Nat)=>(k:Int)).map D.int:=by
 simp_all[fZ]
mutual
def m4:D->D->Bool
 |.non,.non=>true
 |.bl a,.bl b=>a == b
 |.int a,.int b=>decide (a=b)
 |.str a,.str b=>decide (a=b)
 |.ty a,.ty b=>decide (a=b)
 |.tup xs,.tup ys=>qT xs ys
 |.lst xs,.lst ys=>qT xs ys
 |_,_=>false
def qT:LD->LD->Bool
 |[],[]=>true
 |x::xs,y::ys=>m4 x y && qT xs ys
 |_,_=>false
end
mutual
theorem CB:∀ {x y:D},m4 x y=true->x=y
 |.non,.non,_=>rr
 |.bl a,.bl b,h=>by rw[show a=b from eq_of_beq h]
 |.int a,.int b,h=>by rw[show a=b from of_decide_eq_true h]
 |.str a,.str b,h=>by rw[show a=b from of_decide_eq_true h]
 |.ty a,.ty b,h=>by rw[show a=b from of_decide_eq_true h]
 |.tup xs,.tup ys,h=>by rw[qU h]
 |.lst xs,.lst ys,h=>by rw[qU h]
theorem qU:∀ {xs ys:LD},qT xs ys=true->xs=ys
 |[],[],_=>rr
 |x::xs,y::ys,h=>by
  have h:=Bool.and_eq_true_iff.mp h;rw[CB h.1,qU h.2]
end
def WM (r:OB)(d:D)(b:Bool):Bool:=match r with
 |some (e,c)=>m4 e d && c == b
 |none=>false
def wM (h:WM r d b=true):r=some (d,b):=by
 rcases r with _|⟨e,c⟩
 .cases h
 .have h:=Bool.and_eq_true_iff.mp h;rw[CB h.1,eq_of_beq h.2]
section
variable {f:FE}{c:FT}{g g' h:FS}{ρ ρ':Env}{i:Nat}{d:D}{b:Bool}{r:Option Res}{ds:LD}
def ah (hl:ds.length=n)(e:g (ds.map (λd=>some (d,false))++List.replicate k none)=some (.rt d b)):ax g n k ds=some (d,b):=by
 unfold ax;rw[if_pos hl,e]
def EM (n:aO d=true):setE ρ i d b=ρ.set i (some (d,false)):=by unfold setE;rw[if_pos n]
def Ik (n:aZ ds=true):setE ρ i (.lst ds) true=ρ.set i (some (.lst ds,true)):=by
 simp_all
def Nk (n:aO d=false)(m:b=false\/xQ d=false):setE ρ i d b=(unown ρ).set i (some (d,false)):=by
 unfold setE;have hz:¬(b=true/\xQ d=true):=λz=>by
  lia
 rw[if_neg (by simp[n]),if_neg hz]
def Il (e:f ρ=some (d,b))(k:h (setE ρ i d b)=r):cx (dO i f) h ρ=r:=by simp[e];exact k
def wN (e:f ρ=some (d,b))(n:aO d=true)(k:h (ρ.set i (some (d,false)))=r):cx (dO i f) h ρ=r:=Il e (by rw[EM n];exact k)
def bE (e:f ρ=some (.lst ds,true))(n:aZ ds=true)(k:h (ρ.set i (some (.lst ds,true)))=r):cx (dO i f) h ρ=r:=Il e (by rw[Ik n];exact k)
def Im (e:f ρ=some (d,b))(n:aO d=false)(m:b=false\/xQ d=false)(k:h ((unown ρ).set i (some (d,false)))=r):cx (dO i f) h ρ=r:=Il e (by rw[Nk n m];exact k)
def cu (e:g ρ=some (.nx ρ'))(k:h ρ'=r):cx g h ρ=r:=by unfold cx;rw[e];exact k
def V4 (e:g ρ=some (.rt d b)):cx g h ρ=some (.rt d b):=by unfold cx;rw[e]
def Yd (e:g ρ=some (.ct ρ')):cx g h ρ=some (.ct ρ'):=by unfold cx;rw[e]
def l5 (e:c ρ=some true)(k:g ρ=r):A6 c g g' ρ=r:=by unfold A6;rw[e];exact k
def iS (e:c ρ=some false)(k:g' ρ=r):A6 c g g' ρ=r:=by unfold A6;rw[e];exact k
def V5 (e:c ρ=some x)(M:x=true->g ρ=r)(kf:x=false->g' ρ=r):A6 c g g' ρ=r:=by
 cases x with
 |true=>exact l5 e (M rr)
 |false=>exact iS e (kf rr)
def aW (e:c ρ=some true)(k:g ρ=some (.rt d b)):cx (A6 c g g') h ρ=some (.rt d b):=V4 (l5 e k)
def aq (e:c ρ=some false)(k:h ρ=r):cx (A6 c g o4) h ρ=r:=cu (iS e rr) k
def ak (e:f ρ=some (d,b)):xP f ρ=some (.rt d b):=by simp[e]
def m5 (e:ρ[i]? = some (some (d,b)))(hb:OF d=false:=by rfl):o5 i ρ=some (.rt d b):=by simp only[o5,e,hb];simp
def yW (e:f ρ=some (d,b))(n:aO d=true):dO i f ρ=some (.nx (ρ.set i (some (d,false)))):=by
 simp_all
def pD (e:f ρ=some (.lst ds,true))(n:aZ ds=true):dO i f ρ=some (.nx (ρ.set i (some (.lst ds,true)))):=by
 simp_all
def iT (e:ρ[i]? = some (some (.lst ds,true)))(M:f ρ=some (d,b))(n:aO d=true)(l:ds.length<sizeLine):v0 i f ρ=some (.nx (ρ.set i (some (.lst (ds++[d]),true)))):=by
 simp[e,M,n,l]
def Pe (e:ρ[i]? = some (some (.lst ds,true)))(M:f ρ=some (d,b))(n:aO d=true)(l:ds.length<sizeLine)(k:h (ρ.set i (some (.lst (ds++[d]),true)))=r):cx (v0 i f) h ρ=r:=cu (iT e M n l) k
def qV (e:fi ρ=some ds)(k:f8 tg g ds ρ=some (.nx ρ')):tS fi tg g ρ=some (.nx ρ'):=by unfold tS;rw[e];exact k
def fG (e:fi (jm ρ)=some ds)(k:f8 tg g ds ρ=some (.nx ρ')):xR fi tg g ρ=some (.nx ρ'):=by unfold xR;rw[e];exact k
def io {f:FE}{j:Nat}(e:f ρ=some (.int j,b))(hj:j<=1000):iJ f ρ=some (fZ 0 j):=by
 simp_all<;>lia
def b9 (e:f ρ=some (.bl x,b)):bx f ρ=some x:=by unfold bx;rw[e]
def aK (e:fa ρ=some ds)(k:F ds=x):fA F fa ρ=x:=by simp_all
def iq {f1 g1:D->D->OB}{fa M O:FE}{x y z:D}{b1 b2 b3 b4 p q:Bool}(U:fa ρ=some (x,b1))(a:M ρ=some (y,b2))(e:O ρ=some (z,b3))(j:f1 x y=some (.bl p,b4))(e2:p=true->g1 y z=some (.bl q,false)):ju f1 g1 fa M O ρ=some (.bl (p && q),false):=by
 unfold ju;rw[U,a,e];simp [vJ,j];cases p
 .rfl
 .exact e2 rr
def ci {f1 f2:FE}{p q b1:Bool}(M:f1 ρ=some (.bl p,b1))(e2:p=true->f2 ρ=some (.bl q,false)):G0 f1 f2 ρ=some (.bl (p && q),false):=by
 unfold G0;rw[M];cases p
 .rfl
 .exact e2 rr
def uz {f1 f2:FE}{p q b1:Bool}(M:f1 ρ=some (.bl p,b1))(e2:p=false->f2 ρ=some (.bl q,false)):Uy f1 f2 ρ=some (.bl (p || q),false):=by
 unfold Uy;rw[M];cases p
 .exact e2 rr
 .rfl
def Nl {f1:FE}{p b1:Bool}(M:f1 ρ=some (.bl p,b1)):G1 f1 ρ=some (.bl (!p),false):=by
 unfold G1;rw[M]
def a6 (M:f ρ=some (d,b))(e2:O ρ=some xs):ai f O ρ=some (d::xs):=by
 simp_all
def eI (M:fa ρ=some (x,b1))(e2:U ρ=some (y,b2))(O:op x y=z):f2 op fa U ρ=z:=by
 simp_all
def bO (M:O ρ=some p)(e2:p=true->c2 ρ=some q):fg O c2 ρ=some (p && q):=by
 unfold fg;rw[M];cases p
 .rfl
 .exact e2 rr
def bw (M:O ρ=some p)(e2:p=false->c2 ρ=some q):iF O c2 ρ=some (p || q):=by
 unfold iF;rw[M];cases p
 .exact e2 rr
 .rfl
def ba (M:O ρ=some p):jh O ρ=some (!p):=by
 unfold jh;rw[M];rfl
end
theorem FF (a c:Nat):decide ([a]<[c])=decide (a<c):=by
 simp_all[cons_lt_cons_iff]
@[simp] def CC (a c:Nat):OH (.str ⟨#[a]⟩) (.str ⟨#[c]⟩)=some (.bl (decide (a<=c)),false):=by
 grind[OH,FF]
def bq (h:n<=100000):n<sizeLine:=lt_of_le_of_lt h O9
def cD (h:n<=100000):n<=sizeLine:=le_of_lt (bq h)
def di {α:Type}(l:List α)(g:α->D)(p:α->Bool)(h:α->D)(e:fi ρ=some (l.map g))(hl:l.length<=100000)
  (k:∀x∈l,∃M,tg (g x) (bZ nT cap ρ)=some M/\c M=some (p x)/\(p x=true->∃b,fe M=some (h x,b))):fW fi nT cap tg c fe ρ=some (.lst ((l.filter p).map h),true):=by
 have key:∀O:List α,(∀x∈O,x∈l)->fE tg c fe (bZ nT cap ρ) (O.map g)=some ((O.filter p).map h):=by
  intro O;induction O with
  |nil=>simp
  |cons x O U=>
   grind[mX,A7]
 unfold fW;rw[e,vJ,if_pos (cD (by simpa using hl)),key l λ_ h=>h,Option.map_some]
def ir {α:Type}(l:List α)(g:α->D)(h:α->D)(e:fi ρ=some (l.map g))(hl:l.length<=100000)
  (k:∀x∈l,∃M,tg (g x) (bZ nT cap ρ)=some M/\∃b,fe M=some (h x,b)):fW fi nT cap tg xU fe ρ=some (.lst (l.map h),true):=by
 have:=di (c:=xU) l g _ h e hl λx hx=>by
  obtain⟨M,h1,h2⟩:=k x hx;exact⟨M,h1,rr,λ_=>h2⟩
 rw[filter_eq_self.mpr λ_ _=>rr]at this;exact this
@[simp] def Io {α:Type}(f:α->Bool)(l:List α):wo (l.map λx=>.bl (f x))=some (l.map f):=by
 induction l with
 |nil=>rfl
 |cons x l M=>simp[M]
def A0 (h0:0<=i)(h:i.toNat<z.cps.size)(hz:z.length<=100000):eA (.str z) (.int i)=some (.str ⟨#[z.cps.toList.getD i.toNat 0]⟩,false):=by
 simp_all[cD,wL]
def RH (h0:0<=i)(h:i.toNat<ds.length):eA (.lst ds) (.int i)=some (ds.getD i.toNat .non,false):=by
 simp_all[wL]
def vn (h0:0<=i)(h:i.toNat<ds.length):eA (.tup ds) (.int i)=some (ds.getD i.toNat .non,false):=by
 simp_all[wL]
def CD {xs:LI}{i:Int}(h0:0<=i)(h:i.toNat<xs.length):eA (.lst (xs.map .int)) (.int i)=some (.int (xs.getD i.toNat 0),false):=by
 rw[RH h0 (by simpa using h)];simp[h]
def EN (z:Str):ym z=z.cps.toList.map λc=>.str ⟨#[c]⟩:=rfl
def mod_lt {x m:Int}(hm:0<m):0<=x % m/\x % m<m:=⟨Int.emod_nonneg _ N9,Int.emod_lt_of_pos _ hm⟩
def gK:lh [.lst ds]=some (.int ds.length,false):=rfl
def aX (x y:D)(M:fa ρ=some (x,false))(e2:U ρ=some (y,false))(O:op x y=z):f2 op fa U ρ=z:=eI M e2 O
def cj (e:f ρ=some (.bl x,false)):bx f ρ=some x:=b9 e
def aP (M:f ρ=some (d,false))(e2:O ρ=some xs):ai f O ρ=some (d::xs):=a6 M e2
def a0 (ds:LD)(e:fa ρ=some ds)(k:F ds=x):fA F fa ρ=x:=aK e k
def f9 (d:D)(e:f ρ=some (d,false))(n:aO d=true)(k:h (ρ.set i (some (d,false)))=r):cx (dO i f) h ρ=r:=wN e n k
@[simp] noncomputable abbrev rkE (aa:LD)(ae:Int)(t:Env):Env:=some (.tup aa,false)::some (.int ae,false)::t
@[simp] noncomputable abbrev eR (ns:LI)(zs:LS)(O:Int)(M:LS)(R:LD)(a b:OB)(t:Env):Env:=some (.lst (ns.map .int),false)::some (.lst (zs.map .str),false)::some (.int O,false)::a::some (.lst (M.map .str),true)::some (.lst R,true)::b::t
end DL
set_option backward.eqns.nonrecursive true
namespace Lw
open PySem PySem.Spec PyProof.Rows L2 DL
def kT:D:=(.int 255)
def qW:D:=(.int 9999)
def j7:D:=(.int 9)
def j8:D:=(.int 8)
def kU:D:=(.int 20)
def gS:D:=(.int 8)
def j9:D:=(.int 60)
noncomputable def yX:D:=(.tup [(.str "paper"),(.str "like"),(.str "copy")])
noncomputable def bV:List (PySem.Str×D):=[(("root" : Str),(.tup [(.str "office"),(.str "matters"),(.str "further"),(.str "rule")])),(("named" : Str),(.tup [(.str "day"),(.str "office"),(.str "person")])),(("chosen" : Str),(.tup [(.str "day"),(.str "by"),(.str "office"),(.str "person"),(.str "since")])),(("heir" : Str),(.tup [(.str "day"),(.str "by"),(.str "office"),(.str "person")])),(("death" : Str),(.tup [(.str "day"),(.str "person")])),(("lost" : Str),(.tup [(.str "day"),(.str "person")])),(("found" : Str),(.tup [(.str "day"),(.str "person")])),(("leave" : Str),(.tup [(.str "day"),(.str "by"),(.str "person"),(.str "matters"),(.str "stretch"),(.str "further")])),(("paper" : Str),(.tup [(.str "day"),(.str "by"),(.str "matters"),(.str "stretch"),(.str "whom"),(.str "pieces")])),(("like" : Str),(.tup [(.str "day"),(.str "by"),(.str "matters"),(.str "stretch"),(.str "whom"),(.str "of"),(.str "changes")])),(("copy" : Str),(.tup [(.str "day"),(.str "by"),(.str "of")])),(("call" : Str),(.tup [(.str "day"),(.str "by"),(.str "of")]))]
noncomputable def gd:D:=(.tup [(.str "by"),(.str "person"),(.str "whom")])
noncomputable def CF:D:=(.tup [(.str "open"),(.str "first"),(.str "last")])
noncomputable def ge:D:=(.tup [(.str "chosen"),(.str "heir"),(.str "leave"),(.str "paper"),(.str "like"),(.str "copy"),(.str "call")])
noncomputable def aR (i:Nat):Stmt:=PySem.Challenge.pw_sealchain_k55_whole_called_in.main.body.getD i (.Pass ⟨0,0,0,0⟩)
noncomputable def EO:Gq:=⟨[],[("ALL_MATTERS",kT),("LAST_DAY",qW),("MOST_FURTHER",j7),("MOST_LETTERS",j8),("MOST_PEOPLE",kU),("MOST_PIECES",gS),("MOST_ROWS",j9),("PAPERS",yX),("PERSON_PARTS",gd),("RULES",CF),("SEALINGS",ge)],[("PARTS",bV)],["all","any","bool","dict","enumerate","int","isinstance","len","list","max","min","range","reversed","set","sorted","str","tuple","zip"],["in_order","has_seal","is_first_death","bases_by"]⟩
def RI:Wq:=⟨EO,"is_whole",aR 6,["thing","least","most"],0,[0,100,0,80,100,0,81,0,0,1,0,2]⟩
def qX:=ax (ay RI.r _ rr) 3 0
def RJ:Wq:=⟨RI.gt qX,"is_day",aR 7,["thing"],1,[0,0,0,51]⟩
def yY:=ax (ay RJ.r _ rr) 1 0
def RK:Wq:=⟨RJ.gt yY,"is_stretch",aR 8,["thing"],2,[100,0,82,1,101,0,0,0,0,0,0,2,0,0,0,0,0,3,0,0,0,0]⟩
def wO:=ax (ay RK.r _ rr) 1 0
def RM:Wq:=⟨RK.gt wO,"is_matters",aR 12,["thing"],1,[0,2,0,50]⟩
def wP:=ax (ay RM.r _ rr) 1 0
def RN:Wq:=⟨RM.gt wP,"is_name",aR 22,["thing"],0,[100,0,83,0,0,101,0,53,0,0,102,0,0,0,0,0,0]⟩
def nL:=ax (ay RN.r _ rr) 1 0
def RO:Wq:=⟨RN.gt nL,"is_rule",aR 24,["thing"],0,[0,100,0,83,4,0,59]⟩
def EQ:=ax (ay RO.r _ rr) 1 0
def RP:Wq:=⟨RO.gt EQ,"is_piece",aR 23,["thing"],1,[0,1,0]⟩
def qY:=ax (ay RP.r _ rr) 1 0
def RQ:Wq:=⟨RP.gt qY,"is_pieces",aR 25,["thing"],2,[100,0,82,0,0,101,0,55,0,0,102,0,0,0,0,0]⟩
def jA:=ax (ay RQ.r _ rr) 1 0
def RS:Wq:=⟨RQ.gt jA,"is_change",aR 26,["thing"],2,[100,0,82,1,101,0,0,0,7,0,0,0,55,1,0,0]⟩
def jB:=ax (ay RS.r _ rr) 1 0
def RT:Wq:=⟨RS.gt jB,"is_changes",aR 27,["thing","places"],3,[100,0,82,102,0,0,0,0,0,0,1,0,0,0,0,0,0,102,0,4,1,1,3,0,1]⟩
def m6:=ax (ay RT.r _ rr) 1 1
def Ip:Wq:=⟨RT.gt m6,"is_part",aR 28,["part","thing"],4,[5,0,5,0,0,8,1,5,0,5,0,5,0,0,5,1,5,0,0,2,1,5,1,5,0,0,6,1,5,0,0,7,1,5,0,0,9,1,52,5,0,0,4,1,5,0,0,9,1,0,56,5,0,0,2,1,0,0,1]⟩
def dM:=ax (ay Ip.r _ rr) 2 0
def Iq:Wq:=⟨Ip.gt dM,"is_deed",aR 29,["thing"],5,[100,0,82,5,101,0,100,0,0,83,0,30,0,0,1,101,0,1,101,2,0,0,0,0,102,0,4,2,0,0,0,0,0,1]⟩
def u0:=ax (ay Iq.r _ rr) 1 0
def Ir:Wq:=⟨Iq.gt u0,"word_of",aR 32,["row"],0,[0,0,0,0]⟩
def bj:=ax (ay Ir.r _ rr) 1 0
def CG:Wq:=⟨Ir.gt bj,"part_of",aR 33,["row","part"],1,[0,0,0,0,1,10,0,0,1]⟩
def aw:=ax (ay CG.r _ rr) 2 0
def Iu:Wq:=⟨CG.gt aw,"day_of",aR 34,["row"],2,[5,1,0,0,0,0,0]⟩
def bo:=ax (ay Iu.r _ rr) 1 0
def Iv:Wq:=⟨Iu.gt bo,"is_timely",aR 30,["row","day"],3,[0,1,0,0,2,1,0,5,2,0,3,1,0,1,0,0,0,1,0,0]⟩
def oG:=ax (ay Iv.r _ rr) 1 1
def Iw:Wq:=⟨Iv.gt oG,"is_row",aR 31,["thing"],6,[100,0,82,1,101,0,0,0,14,0,0,4,0,0,0,0]⟩
def yZ:=ax (ay Iw.r _ rr) 1 0
def Ix:Wq:=⟨Iw.gt yZ,"root_offices",aR 39,["rows"],2,[0,0,0,0,5,4,0,3,0]⟩
def jC:=ax (ay Ix.r _ rr) 1 0
def Iy:Wq:=⟨Ix.gt jC,"is_second_root",aR 40,["ahead","row"],3,[0,5,5,1,4,4,1,0,0]⟩
def iu:=ax (ay Iy.r _ rr) 2 0
def Iz:Wq:=⟨Iy.gt iu,"parts_in",aR 35,["row"],1,[0,150,2,6,0,0,0]⟩
def iU:=ax (ay Iz.r _ rr) 1 0
def IA:Wq:=⟨Iz.gt iU,"people_in",aR 36,["row","names"],2,[1,0,0,0,0,4,0,58,6,1,1,0,140,1]⟩
def jD:=ax (ay IA.r _ rr) 1 1
def CH:Wq:=⟨IA.gt jD,"count_people",aR 41,["rows","names","row"],3,[0,1,0,0,0,0,2,1,1,0,2,0,141,1]⟩
abbrev pv:=ay (CH.b [2] [1,1,0,2]) _ rr
def jE:=ax (ay CH.r _ rr) 1 2
def IB:Wq:=⟨CH.gt jE,"is_refused",aR 42,["book","place"],7,[7,1,56,5,0,0,1,0,0,3,0,1,0,0,1,8,0,0,1,1,54]⟩
def m7:=ax (ay IB.r _ rr) 2 0
def CJ:Wq:=⟨IB.gt m7,"register_of",aR 43,["rows","book","place"],8,[103,0,84,82,0,1,104,0,0,1,101,1,2,0,1,2,2]⟩
abbrev qZ:=ay (CJ.b [4] [0,1,2]) _ rr
def eW:=ax (ay CJ.r _ rr) 1 2
def IC:Wq:=⟨CJ.gt eW,"heard",aR 44,["book","known"],0,[0,1,1,3,0,0,0,1,2,0]⟩
def eY:=ax (ay IC.r _ rr) 2 0
def ID:Wq:=⟨IC.gt eY,"rank",aR 46,["book","number"],3,[0,10,0,0,1,1]⟩
def gT:=ax (ay ID.r _ rr) 2 0
def IE:Wq:=⟨ID.gt gT,"in_order",aR 48,["book","known","dated"],7,[2,1,0,0,1,0,1,6,11,0,1,0,0,0,2,2,1,0,0,1,0]⟩
def eJ:=ax (ay IE.r _ rr) 2 1
def CK:Wq:=⟨IE.gt eJ,"by_office",aR 60,["claim"],0,[0,0,0,0,0,0,0]⟩
def jF:=ax (ay CK.r _ rr) 1 0
def IF:Wq:=⟨CK.gt jF,"roots",aR 49,["book","known","known_rows"],2,[2,1,0,0,3,0,1,0,1,0,0,105,0,0,2,5,15,0,14,0,0]⟩
def iV:=ax (ay IF.r _ rr) 2 1
def IG:Wq:=⟨IF.gt iV,"is_known",aR 45,["book","known","number"],0,[0,0,3,2,101,0,0,0,0,0,2,1]⟩
def cU:=ax (ay IG.r _ rr) 3 0
def IH:Wq:=⟨IG.gt cU,"tells",aR 52,["row","words","person","day"],3,[0,4,17,0,1,5,16,0,2,0,15,0,3]⟩
def wQ:=ax (ay IH.r _ rr) 4 0
def II:Wq:=⟨IH.gt wQ,"told_of",aR 53,["book","known","words","person","day"],4,[0,4,2,3,4,0,0,6,0,1,0,0,4,0,1,2,3,0]⟩
def nM:=ax (ay II.r _ rr) 5 0
def IJ:Wq:=⟨II.gt nM,"lives",aR 54,["book","known","person","day"],5,[0,5,101,0,0,1,2,3]⟩
def pE:=ax (ay IJ.r _ rr) 4 0
def IK:Wq:=⟨IJ.gt pE,"has_seal",aR 55,["book","known","person","day","told"],7,[0,4,1,0,1,2,3,5,101,4,0,0,5,20,0,0,0,4,1,0,7,1,0]⟩
def l7:=ax (ay IK.r _ rr) 4 1
def IL:Wq:=⟨IK.gt l7,"is_sound",aR 56,["book","known","number","sealer","day"],8,[4,0,1,2,9,21,0,0,2,60,0,0,3,20,0,0,2,0,4,19,0,0,2,0,1,0,1,3,4,0,0,1,3,4]⟩
def l8:=ax (ay IL.r _ rr) 3 2
def IM:Wq:=⟨IL.gt l8,"lies_in",aR 9,["day","stretch"],0,[0,0,0,1,0,2,0,1,3,0,0,1]⟩
def nN:=ax (ay IM.r _ rr) 2 0
def IN:Wq:=⟨IM.gt nN,"is_alive",aR 58,["claim","day"],1,[0,0,1,0,0,0,0]⟩
def eK:=ax (ay IN.r _ rr) 2 0
def IP:Wq:=⟨IN.gt eK,"by_since",aR 59,["claim"],0,[0,0,0,0,0]⟩
def iW:=ax (ay IP.r _ rr) 1 0
def IQ:Wq:=⟨IP.gt iW,"chief_of",aR 61,["alive","rule"],4,[5,1,0,0,0,0,0,0,0,1,0,0]⟩
def ra:=ax (ay IQ.r _ rr) 2 0
def IS:Wq:=⟨IQ.gt ra,"holder_by",aR 62,["claimed","root","day","alive","people","person","oldest"],5,[3,2,2,1,0,0,5,0,0,25,2,2,0,1,0,0,4,140,0,0,3,0,0,5,101,4,0,8,101,4,5,25,1,0,4,0,5,0,3,25,1,0,6,1,1,5,0,3,5,0,0,1,0,1,0,5,0,6]⟩
def oH:=ax (ay IS.r _ rr) 3 4
def IT:Wq:=⟨IS.gt oH,"is_held_by",aR 63,["claimed","root","person","day"],6,[0,5,0,0,1,3,2]⟩
def dX:=ax (ay IT.r _ rr) 4 0
def CL:Wq:=⟨IT.gt dX,"is_first_death",aR 64,["book","known","number","row","deaths"],7,[0,3,0,0,2,0,4,9,0,1,27,3,26,3,0,5,1,4,1,0,15,1,0,2]⟩
def eN:=ax (ay CL.r _ rr) 3 2
def IU:Wq:=⟨CL.gt eN,"counts",aR 65,["book","known","so_far","number","row","root"],9,[0,4,0,0,3,5,29,4,0,0,0,1,3,9,29,4,0,0,5,0,13,0,1,28,4,2,5,0,5,29,4,0,0,7,0,1,3,1,2,5,28,4,27,4]⟩
def rb:=ax (ay IU.r _ rr) 4 2
def IV:Wq:=⟨IU.gt rb,"new_claim",aR 66,["row","since","number"],2,[0,29,0,29,0,1,2]⟩
def jG:=ax (ay IV.r _ rr) 3 0
def CM:Wq:=⟨IV.gt jG,"ended",aR 67,["so_far","offices","person","day","left","claim"],2,[0,4,0,0,0,0,5,9,0,5,1,1,0,5,2,7,5,3,8,0,5,3,0,4,5,3,0,5,3,0,4,0,5,2,0,5,3,0,5,5]⟩
abbrev za:=ay (CM.b [2] [9,0,5,1,1,0,5,2,7,5,3,8,0,5,3,0,4,5,3,0,5,3,0,4,0,5,2,0,5,3,0,5]) _ rr
def CN:=ax (ay CM.r _ rr) 4 2
def IW:Wq:=⟨CM.gt CN,"after_choice",aR 68,["so_far","row","number","since","left"],3,[0,3,31,1,0,4,0,0,31,1,31,1,3,0,1,4,1,1,3,2]⟩
def jH:=ax (ay IW.r _ rr) 3 2
def CO:Wq:=⟨IW.gt jH,"inherited",aR 69,["book","known","so_far","heirs","number","person","day","told","office","heir"],6,[0,5,32,0,0,4,0,6,31,0,0,4,0,7,2,5,6,0,0,140,2,5,6,0,2,5,0,0,1,9,0,2,0,0,8,0,9,9,3,8,5,6,9,13,0,1,9,6,0,7,8,9,6,4,8]⟩
abbrev iX:=ay (CO.b [6] [0,9,9,3,8,5,6,9,13,0,1,9,6,0,7,8,9,6,4]) _ rr
def oJ:=ax (ay CO.r _ rr) 5 5
def IX:Wq:=⟨CO.gt oJ,"after_death",aR 70,["book","known","so_far","heirs","number","offices","left"],7,[5,0,0,2,0,0,0,6,2,2,5,33,0,0,4,32,0,0,4,0,1,6,0,0,1,2,3,4]⟩
def kW:=ax (ay IX.r _ rr) 5 2
def CP:Wq:=⟨IX.gt kW,"claims",aR 71,["book","known","so_far","heirs","number","row"],10,[0,2,1,3,0,0,0,21,0,1,4,0,5,0,0,4,5,0,1,2,4,5,35,5,0,2,1,2,4,5,33,5,4,5,35,5,0,2,2,2,5,4,5,35,5,3,3,34,5,34,5,34,5,0,2,0,0,1,2,3,4,0,2,2,20]⟩
abbrev nO:=ay (CP.b [4] [0,5,0,0,4,5,0,1,2,4,5,35,5,0,2,1,2,4,5,33,5,4,5,35,5,0,2,2,2,5,4,5,35,5,3,3,34,5,34,5,34,5,0,2,0,0,1,2,3,4]) _ rr
def m8:=ax (ay CP.r _ rr) 2 4
def IY:Wq:=⟨CP.gt m8,"is_paper",aR 75,["book","known","number"],1,[0,19,0,1,2,4,36,0,0,2,57]⟩
def gg:=ax (ay IY.r _ rr) 3 0
def IZ:Wq:=⟨IY.gt gg,"is_leave",aR 76,["book","known","number"],1,[0,20,0,1,2,5,37,0,0,2]⟩
def iY:=ax (ay IZ.r _ rr) 3 0
def Ja:Wq:=⟨IZ.gt iY,"is_borne",aR 77,["book","known","number"],2,[0,0,0,1,2,1,0,1,2]⟩
def gh:=ax (ay Ja.r _ rr) 3 0
def Jb:Wq:=⟨Ja.gt gh,"covers",aR 13,["matters","some"],0,[0,5,2,0,1,1]⟩
def iz:=ax (ay Jb.r _ rr) 2 0
def Jc:Wq:=⟨Jb.gt iz,"reach_bar",aR 81,["row","above"],2,[0,39,1,39,0,0,5,40,0,7,39,0,39,1,0,0]⟩
def oK:=ax (ay Jc.r _ rr) 2 0
def Jd:Wq:=⟨Jc.gt oK,"office_bar",aR 82,["claimed","row","root"],7,[13,0,2,40,1,39,1,0,0,0,1,2]⟩
def iZ:=ax (ay Jd.r _ rr) 3 0
def CQ:Wq:=⟨Jd.gt iZ,"office_bases",aR 85,["book","known","claimed","number","row","bearing"],8,[0,4,0,0,3,5,2,2,4,5,26,0,1,2,0,1,2,0,0,0,2,2,4,0,5,41,0,0,15,1,0,40,2]⟩
def gk:=ax (ay CQ.r _ rr) 4 2
def Je:Wq:=⟨CQ.gt gk,"ends_within",aR 11,["stop","bound"],0,[2,1,0,0,6,0,0,0,1]⟩
def kX:=ax (ay Je.r _ rr) 2 0
def Jf:Wq:=⟨Je.gt kX,"is_within",aR 10,["one","other"],1,[0,0,0,1,0,0,0,0,0,0,1]⟩
def jI:=ax (ay Jf.r _ rr) 2 0
def Jg:Wq:=⟨Jf.gt jI,"is_ahead",aR 47,["book","one","other"],4,[0,10,32,0,1,32,0,2]⟩
def ja:=ax (ay Jg.r _ rr) 3 0
def Jh:Wq:=⟨Jg.gt ja,"leave_bar",aR 83,["book","number","leave","row","stretch"],5,[0,3,0,0,1,0,4,45,0,0,2,0,0,2,1,0,23,44,3,4,1,45,3,4,0,0,5,3,0,0,2]⟩
def oM:=ax (ay Jh.r _ rr) 3 2
def Ji:Wq:=⟨Jh.gt oM,"leaves_to",aR 84,["book","known","person","leaves"],2,[3,2,0,1,0,35,0,1,9,1,2,0,0,0,2,2,0,0,3,5,46,0,2,0,1,0]⟩
def oN:=ax (ay Ji.r _ rr) 3 1
def Jj:Wq:=⟨Ji.gt oN,"leave_bases",aR 86,["book","known","number","leaves"],6,[0,3,0,0,1,47,0,0,2,0,2,0,2,0,3,2,1,1,2,0,0]⟩
def kY:=ax (ay Jj.r _ rr) 3 1
def Jk:Wq:=⟨Jj.gt kY,"copy_bases",aR 87,["book","known","number","of"],5,[0,3,48,0,0,2,12,0,1,3,3,0,3,2,0,3,0]⟩
def m9:=ax (ay Jk.r _ rr) 3 1
def Jl:Wq:=⟨Jk.gt m9,"bases_by",aR 88,["book","known","claimed","number","found"],9,[11,0,1,3,0,5,50,0,0,3,0,0,0,1,3,0,4,1,7,0,1,2,3,1,0,1,3,0,3,4,0,0,0,0]⟩
def eO:=ax (ay Jl.r _ rr) 4 1
def Jm:Wq:=⟨Jl.gt eO,"may_call",aR 78,["book","known","claimed","call","number","row","caller","over"],7,[0,5,0,0,4,0,6,50,0,0,3,5,6,50,5,0,5,51,5,0,7,1,5,5,35,0,1,11,50,0,50,1,0,0,106,4,2,6,0,3,0,7,23,1,0,2,49,0,3,4]⟩
def rd:=ax (ay Jm.r _ rr) 5 3
def Jn:Wq:=⟨Jm.gt rd,"calls_in",aR 79,["book","known","claimed","call","number","day","row"],9,[0,6,0,0,3,1,52,6,1,51,6,4,8,50,6,5,0,0,30,0,1,3,0,0,1,2,3,4]⟩
def lA:=ax (ay Jn.r _ rr) 6 1
def Jo:Wq:=⟨Jn.gt lA,"calls_by",aR 80,["book","known","claimed","number","day"],10,[14,0,1,3,0,0,5,0,1,2,3,4,0,41,0,1,0,1,2,3,0,4,5,0]⟩
def re:=ax (ay Jo.r _ rr) 5 0
def Jp:Wq:=⟨Jo.gt re,"is_fit",aR 89,["book","known","claimed","number","day"],11,[32,0,1,3,8,52,0,0,3,4,0,0,5,101,0,0,1,2,3,4]⟩
def rf:=ax (ay Jp.r _ rr) 5 0
def CS:Wq:=⟨Jp.gt rf,"links",aR 90,["book","known","day","claimed","found","number"],12,[1,3,19,0,1,0,4,0,0,0,41,0,1,5,16,0,1,5,0,0,1,3,5,2,2,4,5,4,0,1,3,5,5]⟩
abbrev Jq:=ay (CS.b [4] [16,0,1,5,0,0,1,3,5,2,2,4,5,4,0,1,3,5]) _ rr
def pF:=ax (ay CS.r _ rr) 3 3
def CT:Wq:=⟨CS.gt pF,"bears",aR 91,["base","among"],0,[0,5,0,0,20,0,0,1]⟩
def pG:=ax (ay CT.r _ rr) 2 0
def CU:Wq:=⟨CT.gt pG,"stood",aR 92,["found","stands","number","resting"],1,[0,1,0,0,6,0,2,3,106,1,1,0,3,0,0,1,1,1,2,2]⟩
abbrev Jr:=ay (CU.b [2] [106,1,1,0,3,0,0,1,1,1,2]) _ rr
def pH:=ax (ay CU.r _ rr) 1 3
def Js:Wq:=⟨CU.gt pH,"standing",aR 93,["book","known","day"],13,[0,107,0,2,0,1,2]⟩
def gn:=ax (ay Js.r _ rr) 3 0
def Jt:Wq:=⟨Js.gt gn,"leaning",aR 97,["book","known","day","number","found","left"],13,[0,4,3,0,1,2,0,5,1,105,1,3,6,4,1,0,2,0,1,0,108,1,5,1,1,4,20,0,1,0]⟩
def nQ:=ax (ay Jt.r _ rr) 4 2
def Ju:Wq:=⟨Jt.gt nQ,"_law_cell",aR 99,["_law_script","_law_k","_law_number"],0,[3,1,101,0,0,0,0,1,0,2,1,3,1,8,101,0,0,2,1,1,3,0,0,4,3,1,101,0,3,3,1,1,0,4,5,2,2]⟩
def fu:=ax (ay Ju.r _ rr) 2 1
def CV:Wq:=⟨Ju.gt fu,"_law_names",aR 100,["_law_cell_here","_law_letters","_law_base","_law_at","_law_names_here","_law_k","_law_name"],0,[0,1,2,2,1,0,2,1,4,0,0,1,4,6,2,1,3,0,0,3,4,6,0,101,2,0,4,0,1,5,0,6,109,2,0,6,3,0,1,4,1,6,0,3,5,0,4,1,6,5]⟩
abbrev Bm:=ay (CV.b [8] [0,6,109,2,0,6,3,0,1,4,1,6,0,3,5,0,4,1,6]) _ rr
def u5:=ax (ay CV.r _ rr) 1 6
def Jv:Wq:=⟨CV.gt u5,"_law_giver",aR 101,["_law_rows_here","_law_cell_here","_law_names_here","_law_some"],0,[3,0,0,0,4,0,0,0,0,0,0,8,4,1,0,0,3,4,6,1,101,3,0,0,2,4,6,1]⟩
def nR:=ax (ay Jv.r _ rr) 3 1
def Jw:Wq:=⟨Jv.gt nR,"_law_sealed",aR 102,["_law_rows_here","_law_word","_law_day","_law_cell_here","_law_names_here","_law_by","_law_matters","_law_stretch","_law_person","_law_changes"],1,[0,5,0,0,3,4,0,6,0,4,6,3,0,7,0,2,1,2,1,2,4,6,3,5,1,0,8,0,4,4,1,1,2,4,5,4,6,3,0,2,5,8,6,7,0,4,6,3,5,1,0,2,5,6,7,0,0,4,4,6,3,0,4,0,4,5,1,0,9,4,6,3,0,4,0,2,5,6,7,4,6,3,1,101,0,9,0,1,2,5,4,6,3,1,101,0]⟩
def rg:=ax (ay Jw.r _ rr) 5 5
def Jx:Wq:=⟨Jw.gt rg,"_law_row",aR 103,["_law_rows_here","_law_cell_here","_law_names_here","_law_sorts","_law_word","_law_day","_law_noted","_law_left","_law_by"],2,[0,3,0,3,1,3,0,4,0,3,4,1,0,5,1,6,101,0,4,6,1,0,6,1,5,0,4,6,1,0,7,6,1,4,4,0,6,0,0,4,5,7,2,5,4,0,8,1,0,7,2,0,6,5,8,0,2,0,2,4,6,7,1,5,4,6,7,5,4,0,6,5,1,0,7,2,0,2,0,2,4,6,7,5,4,0,6,5,0,2,1,4,6,7,0,2,4,6,7,0,6,4,5,0,2,4,6,7]⟩
def CW:=ax (ay Jx.r _ rr) 3 6
def CY:Wq:=⟨Jx.gt CW,"_law_rows",aR 104,["_law_script","_law_names_here","_law_cell_here","_law_rows_here","_law_k"],3,[0,2,4,0,0,3,0,1,0,4,2,0,4,6,2,0,3,0,1,0,1,5,4,6,2,0,3,0,1,0,1,0,110,1,6,101,0,4,6,2,4,0,3,0,3,4,4,0,1,4,7,1,0,3,0,1,0,1,4]⟩
abbrev u6:=ay (CY.b [8] [0,3,0,3,4,4,0,1,4,7,1]) _ rr
def zb:=ax (ay CY.r _ rr) 2 3
def Jy:Wq:=⟨CY.gt zb,"holder",aR 72,["book","known","office","day","root"],11,[0,4,0,50,0,1,2,2,4,0,0,39,30,0,1,4,3]⟩
def rh:=ax (ay Jy.r _ rr) 4 1
def CZ:Wq:=⟨Jy.gt rh,"_law_may",aR 105,["_law_book","_law_deed","_law_person","_law_day","_law_noted","_law_root"],12,[47,0,2,3,46,0,2,3,0,5,2,0,1,0,0,0,0,0,4,5,5,0,5,1,0,1,27,0,5,0,1,1,111,5,0,1,5,0,0,0,5,3,2,0,0]⟩
abbrev rj:=ay (CZ.b [4] [5,0,5,1,0,1,27,0,5,0,1,1,111,5,0,1,5,0,0,0,5,3,2,0]) _ rr
def Db:=ax (ay CZ.r _ rr) 4 2
def Jz:Wq:=⟨CZ.gt Db,"first_bearer",aR 94,["resting","stands"],1,[0,0,1,1,0,0,11,0,1,0]⟩
def gp:=ax (ay Jz.r _ rr) 2 0
def Dc:Wq:=⟨Jz.gt gp,"chain",aR 95,["book","known","day","number","found","stands","told","bearer"],13,[0,4,13,0,1,2,0,5,11,4,20,3,5,0,0,6,3,0,7,0,1,4,3,5,1000,1,0,7,0,6,0,7,0,7,0,1,4,0,7,5,0,6,0,7,0,142,6]⟩
abbrev zc:=ay (Dc.b [10] [0,6,0,7,0,7,0,1,4,0,7,5]) _ rr
def De:=ax (ay Dc.r _ rr) 4 4
def zd:Wq:=⟨Dc.gt De,"_law_leans",aR 106,["_law_book","_law_number","_law_day","_law_some","_law_found","_law_other"],14,[0,4,10,0,2,1,100,4,84,1,143,4,4,1,4,1,4,4,1,3,0,1,4,0,0,4,5,9,5,3,9,1,0,0,2,5,0,0]⟩
abbrev Bn:=ay (zd.b [4] [9,5,3,9,1,0,0,2,5,0]) _ rr
def kj:=ax (ay zd.r _ rr) 4 2
def Df:Wq:=⟨zd.gt kj,"law",aR 107,["_law_script","_law_names_here","_law_rows_here","_law_one","_law_links","_law_number","_law_deed","_law_day","_law_person","_law_other","_law_good","_law_later","_law_some","_law_due","_law_gone"],15,[0,1,9,10,0,0,2,5,0,1,0,3,60,109,2,4,1,2,2,101,2,4,0,0,0,1,0,0,0,5,0,4,4,10,0,101,4,0,6,0,0,2,5,0,7,4,10,0,0,8,0,0,6,0,1,4,6,10,0,0,1,4,10,0,0,9,60,1,2,7,7,8,5,0,10,3,3,6,8,7,1,35,3,35,9,0,1,7,0,0,112,0,7,7,1,7,1,7,11,0,12,12,3,11,0,13,12,10,7,11,7,0,14,11,3,11,5,13,1,14,0,12,9,0,1,0,1,12,9,11,13,0,3,5,11,12,0,8,7,1,12,9,0,7,11,12,3,0,7,11,0,0]⟩
abbrev J0:=ay (Df.b [22] [0,12,12,3,11,0,13,12,10,7,11,7,0,14,11,3,11,5,13,1,14,0,12,9,0,1,0,1,12,9,11,13,0,3,5,11,12,0,8,7,1,12,9,0,7,11,12,3,0,7,11,0]) _ rr
def F_law:=ax (ay Df.r _ rr) 1 14
end Lw
namespace DL
open PySem L2
theorem jb:∀(n m:Nat)(d:D),n<=m->aQ n d=true->aQ m d=true
 |n,m,.non,_,_=>by simp
 |n,m,.bl _,_,_=>by simp
 |n,m,.int _,_,_=>by simp
 |n,m,.str _,_,_=>by simp
 |n,m,.ty _,_,h=>by cases n<;>simp at h
 |n,m,.dk _ _,_,h=>by simp at h
 |n,m,.dt _ _,_,h=>by simp at h
 |0,m,.tup _,_,h=>by simp at h
 |0,m,.lst _,_,h=>by simp at h
 |n+1,0,_,h,_=>by lia
 |n+1,m+1,.tup ds,hl,h=>by
  simp [aQ,all_eq_true]at h |-;exact λd hd=>jb n m d N9 (h d hd)
 |n+1,m+1,.lst ds,hl,h=>by
  simp [aQ,all_eq_true]at h |-;exact λd hd=>jb n m d N9 (h d hd)
theorem nU:∀(ds:LD),(∀d∈ds,dm d d=true)->jv ds ds=true
 |[],_=>by simp [jv]
 |d::ds,h=>by
  simp [jv,h d mX];exact nU ds λe he=>h e (mZ _ he)
theorem ro:∀(n:Nat)(d:D),aQ n d=true->dm d d=true
 |n,.non,_=>by simp
 |n,.bl _,_=>by simp
 |n,.int _,_=>by simp
 |n,.str _,_=>by simp
 |n,.ty _,h=>by cases n<;>simp at h
 |n,.dk _ _,h=>by simp at h
 |n,.dt _ _,h=>by simp at h
 |0,.tup _,h=>by simp at h
 |0,.lst _,h=>by simp at h
 |n+1,.tup ds,h=>by
  simp [aQ,all_eq_true]at h;exact nU ds λd hd=>ro n d (h d hd)
 |n+1,.lst ds,h=>by
  simp [aQ,all_eq_true]at h;exact nU ds λd hd=>ro n d (h d hd)
def J5 (I:Nat->Env->Prop)(ok:Nat->Bool)(ds:LD)(M:Env)(h0:I 0 M)
  (step:∀i x ρ,ds[i]? = some x->I i ρ->∃O,tg x ρ=some O/\((ok i=true/\∃ρ',g O=some (.nx ρ')/\I (i+1) ρ')\/(ok i=false/\g O=some (.rt d b)))):
  ((∀i,i<ds.length->ok i=true)/\∃ρ',f8 tg g ds M=some (.nx ρ')/\I ds.length ρ')\/((∃i,i<ds.length/\ok i=false)/\f8 tg g ds M=some (.rt d b)):=by
 have key:∀(es:LD)(i:Nat)(ρ:Env),ds.drop i=es->i+es.length=ds.length->I i ρ ->
   ((∀j,i<=j->j<ds.length->ok j=true)/\∃ρ',f8 tg g es ρ=some (.nx ρ')/\I ds.length ρ')\/((∃j,j<ds.length/\ok j=false)/\f8 tg g es ρ=some (.rt d b)):=by
  intro es;induction es with
  |nil=>
   intro i ρ e hl h;refine .inl ⟨λj h1 h2=>?_,ρ,by rw[Gw],by rw[<-hl];exact h⟩;simp at hl;lia
  |cons x es f=>
   intro i ρ e hl h;have hd:ds[i]? = some x:=by
    have:(ds.drop i)[0]? = some x:=by rw[e];rfl
    grind
   have he:ds.drop (i+1)=es:=by rw[<-List.drop_drop,e];rfl
   have hi:=(vV hd).1;obtain⟨O,h1,⟨h2,ρ',h3,h4⟩|⟨h2,h3⟩⟩:=step i x ρ hd h
   .rcases f (i+1) ρ' he (by simp at hl;lia) h4 with⟨U,ρ2,c,a3⟩|⟨U,c⟩
    .grind[tR]
    simp_all
   .exact .inr ⟨⟨i,hi,h2⟩,by rw[tR,h1];simp only[vJ,h3]⟩
 rcases key ds 0 M H9 H9 h0 with⟨U,c⟩|a
 .simp_all
 .exact .inr a
end DL
namespace DL
@[simp] abbrev sF (d:D):OB:=some (d,false)
@[simp] noncomputable abbrev lT (ds:LD):OB:=some (.lst ds,true)
@[simp] noncomputable abbrev sI (x:Int):OB:=some (.int x,false)
@[simp] noncomputable abbrev sS (x:PySem.Str):OB:=some (.str x,false)
@[simp] noncomputable abbrev sT (x:LD):OB:=some (.tup x,false)
@[simp] noncomputable abbrev sL (x:LD):OB:=some (.lst x,false)
@[simp] noncomputable abbrev sO (x:Bool):OB:=some (.bl x,false)
def bW {r:OB}{d:D}{b:Bool}(h:WM r d b=true:=by decide +kernel):r=some (d,b):=wM h
def cN {p q:Prop}[Decidable p](h:p)(n:decide p=false:=by decide +kernel):q:=absurd h (of_decide_eq_false n)
end DL
namespace Lw
open PySem DL L2
def xC (d:D)(r:LD):mQ (d::r) 0=some d:=by have:=iR (xs:=d::r) (j:=0) H9;simpa using this
def ER (d e:D)(r:LD):mQ (d::e::r) 1=some e:=by have:=iR (xs:=d::e::r) (j:=1) H9;simpa using this
def at2 (d e f:D)(r:LD):mQ (d::e::f::r) 2=some f:=by have:=iR (xs:=d::e::f::r) (j:=2) H9;simpa using this
noncomputable def cb (k:Str):Bool:=decide (k = "death") || decide (k = "lost") || decide (k = "found")
noncomputable def c8 (k:Str):Bool:=decide (k = "chosen") || decide (k = "heir") || decide (k = "leave") || decide (k = "paper") || decide (k = "like") || decide (k = "copy") || decide (k = "call")
structure DeedP (kind:Str)(aj:List D):Prop where
 flat:aZ aj=true
 plain:aj.all (aQ 5)=true
 three:cb kind=true->∃(day:Int)(p:Str),aj=[.int day,.str p]
 slg:c8 kind=true->∃(day:Int)(p:Str)(r:List D),aj=.int day::.str p::r
noncomputable def row (h:Int)(kind:Str)(aj:LD):D:=.tup [.int h,.tup (.str kind::aj)]
def nV (r:D):Prop:=∃h kind aj,r=row h kind aj/\DeedP kind aj
def nV.flat (h:nV r):aO r=true:=by obtain⟨a,k,aj,rfl,dp⟩:=h;simp[row,dp.flat]
theorem br (h:∀d∈ds,aO d=true):aZ ds=true:=by
 induction ds with
 |nil=>rfl
 |cons d r M=>simp_all
def cV (zs:LS):aZ (zs.map D.str)=true:=by
 induction zs with
 |nil=>rfl
 |cons a l M=>simp[M]
def aG:D->Int
 |.tup (.int h::_)=>h
 |_=>0
noncomputable def kindOf:D->Str
 |.tup [_,.tup (.str k::_)]=>k
 |_=>("" : Str)
noncomputable def aA:D->Int
 |.tup [_,.tup (_::.int d::_)]=>d
 |_=>0
noncomputable def rq (p:Str)(day:Int):LD->Bool
 |[.int d,.str q]=>decide (q=p) && decide (d<=day)
 |_=>false
def told (ws:LS)(p:Str)(day:Int):D->Bool
 |.tup [_,.tup (.str kind::aj)]=>decide (kind∈ws) && rq p day aj
 |_=>false
def dc (h:Int)(kind:Str)(aj:LD):bj [row h kind aj]=sS kind:=ah rr (ak (by simp[row,ER,xC]))
def jJ (h:cb k=true):k = "death" \/ k = "lost" \/ k = "found":=by
 unfold cb at h;lia
def lB (h:c8 k=true):k = "chosen" \/ k = "heir" \/ k = "leave" \/ k = "paper" \/ k = "like" \/ k = "copy" \/ k = "call":=by
 unfold c8 at h;lia
def Nm (h:cb k=true\/c8 k=true):ly bV (.str k) (.str "day")=sI 0:=by
 rcases h with h|h
 .rcases jJ h with rfl|rfl|rfl<;>exact bW
 .rcases lB h with rfl|rfl|rfl|rfl|rfl|rfl|rfl<;>exact bW
def Bo (h:cb k=true):ly bV (.str k) (.str "person")=sI 1:=by
 rcases jJ h with rfl|rfl|rfl<;>exact bW
def J6 (h:cb k=true\/c8 k=true):jV (.str k) (.str "root")=sO false:=by
 rcases h with h|h
 .rcases jJ h with rfl|rfl|rfl<;>exact bW
 .rcases lB h with rfl|rfl|rfl|rfl|rfl|rfl|rfl<;>exact bW
def bc {h:Int}{k:Str}{aj:LD}{part:Str}{i:Nat}{d:D}(hi:ly bV (.str k) (.str part)=sI i)(hd:aj[i]? = some d):aw [row h k aj,.str part]=some (d,false):=by
 refine ah rr (ak ?_);refine aX (.tup (.str k::aj)) (.int (1+i)) (by simp[row,ER]) (aX _ _ rr (aX _ _ (a0 _ rr (dc _ _ _)) rr hi) H9) ?_;have M:=(vV hd).1;have:mQ (.str k::aj) (1+(i:Int))=some d:=by
  have:=iR (xs:=(.str k:D)::aj) (j:=i+1) s9;grind
 simp[this]
def rz {h:Int}{k:Str}{aj:LD}{d:Int}{r:LD}(hk:cb k=true\/c8 k=true)(M:aj=.int d::r):bo [row h k aj]=sI d:=by
 subst M;refine ah rr (aq (cj (aX _ _ (a0 _ rr (dc _ _ _)) rr (J6 hk))) (ak (a0 _ rr (bc (Nm hk) rr))))
def mB (k:Str)(ws:LS):FC (.str k) (ws.map .str)=decide (k∈ws):=by
 induction ws with
 |nil=>simp[FC]
 |cons w ws M=>
  grind[FC,xX]
def km (ws:LS):(ws.map D.str).all fY=true:=by
 simp
def gu (k:Str)(ws:LS):A9 (.str k) (.tup (ws.map .str))=sO (decide (k∈ws)):=by
 simp only[A9,fm,vJ,mB];rw[if_pos ⟨rr,km ws⟩]
def J7 (O:nV r)(ws:LS)(hw:∀w∈ws,cb w=true)(p:Str)(day:Int):wQ [r,.tup (ws.map .str),.str p,.int day]=sO (told ws p day r):=by
 obtain⟨h,kind,aj,rfl,dp⟩:=O;have M:f2 _ (fA _ (fV 0 av)) (am 1) [some (row h kind aj,false),sF _,sS p,sI day]=sF _:=
  aX _ _ (a0 _ rr (dc _ _ _)) rr (gu _ ws)
 have U:told ws p day (row h kind _)=(decide _ && rq p _ aj):=rr;refine ah rr (ak (ci M λhk=>?_));have h3:=hw _ (xy hk);obtain⟨d,q,rfl⟩:=dp.three h3;refine ci (b1:=false) ?_ λ_=>?_
 .exact aX _ _ (a0 _ rr (bc (Bo h3) rr)) rr H9
 .exact aX _ _ (a0 _ rr (rz (.inl h3) rr)) rr H9
def J8 (ds:LD):tY ds=ds.zipIdx.map λx=>.tup [.int x.2,x.1]:=by
 unfold tY;apply ext_getElem?;intro i;simp;cases ds[i]?<;>simp
noncomputable def ag (aa:LD)(ae:Int):List (D×Nat):=aa.zipIdx.filter λx=>decide (aG x.1<=ae)
def jK (aa:LD)(M:∀r∈aa,nV r)(hl:aa.length<=1000)(ae:Int):eY [.tup aa,.int ae]=lT ((ag aa ae).map λx=>.int x.2):=by
 have hc:=di (fi:=GQ (am 0)) (nT:=2) (cap:=[1]) (tg:=FD [0,1]) (c:=bx (f2 OH (gR 1 0) (am 2))) (fe:=am 0) (ρ:=[sT aa,sI ae]) aa.zipIdx (λx=>.tup [.int x.2,x.1]) (λx=>decide (aG x.1<=ae)) (λx=>.int x.2)
  (by simp[J8]) s9 λx hx=>by
   obtain⟨h,kind,aj,e,_⟩:=M _ (List.fst_mem_of_mem_zipIdx hx);refine⟨_,rr,cj ?_,λ_=>⟨false,by simp[bZ]⟩⟩;simp[bZ,e,row,xC,aG]
 exact ah rr (ak hc)
def pw (aa:LD)(ae:Int)(ws:LS)(p:Str)(day:Int):List (D×Nat):=(ag aa ae).filter λx=>told ws p day x.1
def Dg (h:x∈pw aa ae ws p day):aa[x.2]? = some x.1/\told ws p day x.1=true:=by
 obtain⟨h1,h2⟩:=vN h;exact⟨(List.mk_mem_zipIdx_iff_getElem? ).mp (vN h1).1,h2⟩
def bi {aa:LD}{i:Nat}{r:D}(h:aa[i]? = some r):mQ aa (i:Int)=some r:=by
 obtain⟨M,e⟩:=vV h;rw[iR M,e]
def Nn (aa:LD)(ae:Int)(ws:LS)(p:Str)(day:Int):(pw aa ae ws p day).length<=aa.length:=by
 have h1:=vM (λx=>told ws p day x.1) (ag aa ae);have h2:=vM (λx=>decide (aG x.1<=ae)) aa.zipIdx;rw[length_zipIdx]at h2;exact vR h1 h2
def wR (aa:LD)(M:∀r∈aa,nV r)(hl:aa.length<=1000)(ae:Int)(ws:LS)(hw:∀w∈ws,cb w=true)(p:Str)(day:Int):
  nM [.tup aa,.int ae,.tup (ws.map .str),.str p,.int day]=lT ((pw aa ae ws p day).map λx=>.int x.2):=by
 have hc:=di (fi:=dn _) (nT:=1) (cap:=[2,3,4,0]) (tg:=f7 0) (c:=bx (fA wQ (ai (f2 eA (am 4) (am 0)) (fV 1 (fV 2 (fV 3 av)))))) (fe:=am 0)
  (ρ:=[sT aa,sF _,sT (ws.map .str),sS p,sI day]) (ag aa ae) _ _ (λx=>.int x.2)
  (by
   show(fA eY (fV 0 (fV 1 av)) _).bind _=_;rw[a0 _ rr (jK aa M hl ae)];rfl) (by have:=vM (λx:D×Nat=>decide (aG x.1<=ae)) aa.zipIdx;rw[length_zipIdx]at this;exact vR this N9) λx hx=>by
   have O:=(List.mk_mem_zipIdx_iff_getElem? (x:=x.1) (i:=x.2)).mp (vN hx).1;refine⟨_,rr,cj (a0 _ ?_ (J7 (M _ (vL O)) ws hw p day)),λ_=>⟨false,by simp[bZ]⟩⟩;have ha:=bi O;simp[bZ,ha]
 exact ah rr (ak hc)
def kA (x:D×Nat):List At:=[.i (aA x.1),.i x.2]
def bv (a b:D×Nat):Bool:=decide (aA a.1<aA b.1\/(aA a.1=aA b.1/\(a.2:Int)<b.2))
def gy:D×Nat->List (D×Nat)->D×Nat
 |b,[]=>b
 |b,x::r=>if bv b x=true then gy x r else gy b r
def Pf:List (D×Nat)->Option (D×Nat)
 |[]=>none
 |x::r=>some (gy x r)
def RU (a b c d:Int):aU [.i a,.i b] [.i c,.i d]=some (decide (a<c\/(a=c/\b<d))):=by
 rw[aU];by_cases h:a=c
 .simp_all[aU]
 simp_all
def wS (a b:D×Nat):aU (kA a) (kA b)=some (bv a b):=RU _ _ _ _
def wT (l:List (D×Nat)):cy (l.map kA)=true:=by
 simp_all[cy,wS]
theorem nW:∀(r:List (D×Nat))(b:D×Nat),o9 (kA b,.int b.2) (r.map λx=>(kA x,D.int x.2))=.int (gy b r).2
 |[],b=>rr
 |x::r,b=>by
  rw[uY,o9,gy];rw[wS];by_cases h:bv b x=true
  .rw[if_pos h,if_pos (by rw[h])];exact nW r x
  .rw[if_neg h,if_neg (by simpa using h)];exact nW r b
theorem r6:∀(r:List (D×Nat))(b:D×Nat),gy b r∈b::r
 |[],b=>by simp[gy]
 |x::r,b=>by
  rw[gy];split
  .exact mZ _ (r6 r x)
  .rcases vP (r6 r b)with h|h
   .rw[h];exact mX
   simp_all
theorem gz {α:Type}{f:D->Option D}{g h:α->D}:∀(l:List α),(∀x∈l,f (g x)=some (h x))->j4 f (l.map g)=some (l.map h)
 |[],_=>rr
 |x::l,hx=>by
  rw[uY,j4,hx x mX,gz l λy hy=>hx y (mZ _ hy)];rfl
theorem fO {α:Type}{g:α->D}{h:α->List At}:∀(l:List α),(∀x∈l,nB (g x)=some (h x))->du (l.map g)=some (l.map h)
 |[],_=>rr
 |x::l,hx=>by
  rw[uY,du,hx x mX,fO l λy hy=>hx y (mZ _ hy)];rfl
def oP:LS:=[("lost" : Str),"found"]
def jL:∀w∈oP,cb w=true:=by
 intro w hw;rcases vP hw with rfl|hw
 .decide +kernel
 .rcases vP hw with rfl|hw
  .decide +kernel
  simp_all
def fw (aa:LD)(ae:Int)(p:Str)(day:Int):Bool:=match Pf (pw aa ae oP p day) with
 |none=>true
 |some b=>decide (kindOf b.1 = "found")
def rA (hw:∀w∈ws,cb w=true)(O:nV r)(U:told ws p day r=true):∃h k d,r=row h k [.int d,.str p]/\cb k=true/\k∈ws/\d<=day:=by
 obtain⟨h,kind,aj,rfl,dp⟩:=O;have M:(decide _ && rq p _ _)=true:=U;rw[vC]at M;have hm:=xy M.1;obtain⟨d,q,rfl⟩:=dp.three (hw _ hm);have hq:(decide _ && decide _)=true:=M.2;rw[vC]at hq;have:=xy hq.1;subst this;exact⟨h,kind,d,rr,hw _ hm,hm,xy hq.2⟩
def Dh {aa:LD}{i:Nat}{h d:Int}{k p:Str}(M:aa[i]? = some (row h k [.int d,.str p]))(h3:cb k=true):gT [.tup aa,.int i]=sT [.int d,.int i]:=by
 have ha:=bi M;refine ah rr (ak (a0 _ (a6 (a0 [row h k [.int d,.str p]] (by simp[ha]) (rz (.inl h3) rr)) rr) q9))
def Di (aa:LD)(a:∀r∈aa,nV r)(hl:aa.length<=1000)(ae:Int)(p:Str)(day:Int):l7 [.tup aa,.int ae,.str p,.int day]=sO (fw aa ae p day):=by
 have c:=wR aa a hl ae oP jL p day;have g:=Nn aa ae oP p day;have key:∀x∈pw aa ae oP p day,∃h k d,aa[x.2]? = some (row h k [.int d,.str p])/\x.1=row h k [.int d,.str p]/\cb k=true:=λx hx=>by
  obtain⟨O,i⟩:=Dg hx;obtain⟨h,k,d,e,h3,_⟩:=rA jL (a _ (vL O)) i;exact⟨h,k,d,by rw[O,e],e,h3⟩
 unfold fw;generalize f:pw aa ae oP p day=sel at c key g |-;have M:fA nM (fV 0 (fV 1 (ai (fA bX (ai (fS "lost") (ai (fS "found") av))) (fV 2 (fV 3 av))))) [sT aa,sI ae,sS p,sI day,none]=lT (sel.map λx=>.int x.2):=
  a0 _ (by simp[oP,sizeLine]) c
 have U:aZ (sel.map λx=>D.int x.2)=true:=br λd hd=>by obtain⟨x,_,rfl⟩:=vO hd;rfl
 cases sel with
 |nil=>exact ah rr (bE M U (aW (cj H9) (ak rr)))
 |cons x r=>
  refine ah rr (bE M U (aq (cj s9) (ak ?_)));obtain⟨h,k,d,O,e,h3⟩:=key (gy x r) (r6 r x);have hb:kindOf (gy x r).1=k:=by rw[e];rfl
  show _=some (D.bl (decide _),false);rw[hb];refine aX (.str k) (.str "found") (a0 [row h k [.int d,.str p]] (a6 (d:=row h k [.int d,.str p]) (b:=false) (aX (.tup aa) (.int (gy x r).2) rr ?_ (by simp[bi O])) rr) (dc _ _ _)) rr H9;have hm:∀ρ:DL.Env,ρ[0]? = some (sT aa)->j4 (yJ [0] (fA gT (fV 1 (fV 0 av))) ρ) ((x::r).map λx=>D.int x.2)=some ((x::r).map λx=>.tup [.int (aA x.1),.int x.2]):=λρ h0=>
   gz (x::r) λy hy=>by
    obtain⟨h,k,d,O,e,h3⟩:=key y hy;have hd:aA y.1=d:=by rw[e];rfl
    rw[hd];show(fA gT _ _).map _=_;rw[a0 [.tup aa,.int y.2] (by simp[bZ,h0]) (Dh O h3)];rfl
  have hk:du ((x::r).map λx=>D.tup [.int (aA x.1),.int x.2])=some ((x::r).map kA):=fO (x::r) λy _=>rr;have hz:((x::r).map kA).zip ((x::r).map λx=>D.int x.2)=(kA x,.int x.2)::r.map λx=>(kA x,D.int x.2):=by
   rw[zip_map'];rfl
  unfold Cw Rt;show((some _).bind _)=_;simp only[vJ];rw[hm _ rr];simp only[vJ];rw[hk];simp only[vJ];rw[if_pos (wT _),hz];simp only[nW]
def dY:LS:=[("death" : Str)]
def dZ:∀w∈dY,cb w=true:=by
 intro w hw;rcases vP hw with rfl|hw
 .decide +kernel
 simp_all
def cW (aa:LD)(ae:Int)(p:Str)(day:Int):Bool:=(pw aa ae dY p day).isEmpty
def rB (aa:LD)(O:∀r∈aa,nV r)(hl:aa.length<=1000)(ae:Int)(p:Str)(day:Int):pE [.tup aa,.int ae,.str p,.int day]=sO (cW aa ae p day):=by
 have M:=wR _ O hl ae _ dZ p day;unfold cW;generalize pw _ _ _ p _=U at M |-;refine ah rr (ak (aX (.int ((U.map λx=>D.int x.2).length:Nat)) _ ?_ rr ?_))
 .exact a0 _ (a6 (a0 _ (by simp[sizeLine,dY]) M) rr) gK
 .cases U<;>simp
  lia
noncomputable def cP:D->Str
 |.tup [_,.tup (_::_::.str p::_)]=>p
 |_=>("" : Str)
noncomputable def ze:LS:=[("chosen" : Str),"heir","leave","paper","like","copy","call"]
theorem rC (k:Str):c8 k=decide (k∈ze):=by
 simp_all[c8,ze,Bool.or_assoc]
def Bp:ge=.tup (ze.map .str):=rfl
def oQ (k:Str)(ws:LS):dE (.str k) (.tup (ws.map .str))=sO (!decide (k∈ws)):=by
 simp only[dE,fm,vJ,mB];rw[if_pos ⟨rr,km ws⟩]
def J9 (h:c8 k=true):ly bV (.str k) (.str "by")=sI 1:=by
 rcases lB h with rfl|rfl|rfl|rfl|rfl|rfl|rfl<;>exact bW
def c9 (aa:LD)(ae:Int)(r:D):Bool:=(decide (aG r<=ae) && c8 (kindOf r)) && (cW aa ae (cP r) (aA r) && fw aa ae (cP r) (aA r))
def jM {aa:LD}{i:Nat}{h:Int}{kind:Str}{aj:LD}(M:aa[i]? = some (row h kind aj))(ae:Int):cU [.tup aa,.int ae,.int i]=sO (decide (h<=ae)):=by
 have O:=(vV M).1;have ha:=bi M;refine ah rr (ak ?_);have:=ci (f1:=ju OH WK (fI 0) (am 2) (fA lh (fV 0 av))) (f2:=f2 OH (f2 eA (f2 eA (am 0) (am 2)) (fI 0)) (am 1)) (ρ:=[sT aa,sI ae,sI i]) (q:=decide (h<=ae))
  (by
   refine(iq (z:=.int aa.length) (b3:=false) (b4:=false) (p:=true) (q:=true) rr rr H9 H9 λ_=>?_).trans rr;simp;lia) λ_=>by simp[ha,row,xC]
 exact this
def rE (aa:LD)(U:∀r∈aa,nV r)(hl:aa.length<=1000)(ae:Int){i:Nat}{r:D}(a:aa[i]? = some r):l8 [.tup aa,.int ae,.int i]=sO (c9 aa ae r):=by
 obtain⟨h,kind,aj,rfl,dp⟩:=U r (vL a);have hk:=jM a ae;have ha:=bi a;have O:∀(ρ:DL.Env),f2 eA (am 0) (am 2) ρ=some (row h kind aj,false)->fA bj (ai _ av) ρ=sS kind:=λρ e=>a0 [row h kind aj] (a6 e rr) (dc _ _ _);have M:f2 eA (am 0) (am 2) [sT aa,sI ae,sI i,none,none]=some (row h kind aj,false):=by simp[ha]
 have hc:(iF (jh (bx (fA cU (fV 0 (fV 1 (fV 2 av)))))) (bx (f2 dE (fA bj (ai (f2 eA (am 0) (am 2)) av)) (fC ge)))) [sT aa,sI ae,sI i,none,none]=some (!decide (h<=ae) || !c8 kind):=by
  refine bw (ba (cj (a0 _ rr hk))) λ_=>cj (aX (.str kind) ge (O _ M) rr ?_);rw[Bp,rC];exact oQ kind ze
 have hs:c9 aa ae (row h kind aj)=((decide (h<=ae) && c8 kind) && (cW aa ae (cP (row h kind aj)) (aA (row h kind aj)) && fw aa ae (cP (row h kind aj)) (aA (row h kind aj)))):=rr;cases hb:(decide (h<=ae) && c8 kind) with
 |false=>
  rw[hs,hb];refine ah rr (aW (hc.trans ?_) (ak rr));rw[<-Bool.not_and,hb];rfl
 |true=>
  rw[hs,hb];rw[vC]at hb;obtain⟨day,p,c,rfl⟩:=dp.slg hb.2;rw[Bool.true_and];refine ah rr (aq (hc.trans (by rw[hb.1,hb.2];rfl)) (f9 (.str p) (a0 _ (a6 M rr) (bc (i:=1) (J9 hb.2) rr)) rr (f9 (.int day) (a0 [row h kind (.int day::.str p::c)] (a6 (b:=false) (by simp[ha]) rr) (rz (.inr hb.2) rr)) rr (ak ?_))));exact ci (b1:=false) (a0 _ H9 (rB aa U hl ae p day)) λ_=>a0 _ H9 (Di aa U hl ae p day)
inductive Cd:Str->List D->Prop
 |root (o r:Str) (m f:Int):Cd ("root" : Str) [.str o,.int m,.int f,.str r]
 |named (d:Int) (o p:Str):Cd ("named" : Str) [.int d,.str o,.str p]
 |chosen (d:Int) (b o p:Str) (s:Int):Cd ("chosen" : Str) [.int d,.str b,.str o,.str p,.int s]
 |heir (d:Int) (b o p:Str):Cd ("heir" : Str) [.int d,.str b,.str o,.str p]
 |three (k:Str) (hk:k = "death" \/ k = "lost" \/ k = "found") (d:Int) (p:Str):Cd k [.int d,.str p]
 |other (k:Str) (hk:k = "leave" \/ k = "paper" \/ k = "like" \/ k = "copy" \/ k = "call") (d:Int) (b:Str) (r:List D) (hf:aZ r=true) (hp:r.all (aQ 5)=true):Cd k (.int d::.str b::r)
def Cd.deed (h:Cd k r):DeedP k r:=by
 cases h with
 |root o rl m f=>exact⟨rr,H9,λh=>cN h,λh=>cN h⟩
 |named d o p=>exact⟨rr,H9,λh=>cN h,λh=>cN h⟩
 |chosen d b o p s=>exact⟨rr,H9,λh=>cN h,λ_=>⟨d,b,_,rr⟩⟩
 |heir d b o p=>exact⟨rr,H9,λh=>cN h,λ_=>⟨d,b,_,rr⟩⟩
 |three k hk d p=>exact⟨rr,H9,λ_=>⟨d,p,rr⟩,λh=>by lia⟩
 |other k hk d b r hf hp=>exact⟨by simp[hf],by simp_all,λh=>by rcases hk with rfl|rfl|rfl|rfl|rfl<;>exact cN h,λ_=>⟨d,b,r,rr⟩⟩
def wU (r:D):Prop:=∃h k aj,r=row h k aj/\Cd k aj
def wU.rp (h:wU r):nV r:=by obtain⟨a,k,aj,rfl,d⟩:=h;exact⟨a,k,aj,rr,d.deed⟩
def aD (r:D):Bool:=decide (kindOf r = "root")
def Cd.day (h:Cd k r)(hk:k ≠ "root"):∃d q,r=.int d::q:=by
 cases h with
 |root=>exact absurd rr hk
 |named d=>exact⟨d,_,rr⟩
 |chosen d=>exact⟨d,_,rr⟩
 |heir d=>exact⟨d,_,rr⟩
 |three _ _ d=>exact⟨d,_,rr⟩
 |other _ _ d=>exact⟨d,_,rr⟩
def Cd.day_idx (h:Cd k r)(hk:k ≠ "root"):ly bV (.str k) (.str "day")=sI 0:=by
 cases h with
 |root=>exact absurd rr hk
 |named=>exact bW
 |chosen=>exact bW
 |heir=>exact bW
 |three _ hh=>rcases hh with rfl|rfl|rfl<;>exact bW
 |other _ hh=>rcases hh with rfl|rfl|rfl|rfl|rfl<;>exact bW
def bL (e:f ρ=some (.str a,bb))(h:decide (a=b)=x):bx (f2 jV f (fS b)) ρ=some x:=by simp_all
def tF (r:D):D:=if aD r=true then .non else .int (aA r)
def gU (g:wU r):bj [r]=sS (kindOf r):=by
 obtain⟨h,k,aj,rfl,_⟩:=g;exact dc h k _
def rF (g:wU r):bo [r]=some (tF r,false):=by
 obtain⟨h,k,aj,rfl,d⟩:=g;unfold tF;by_cases hk:k = "root"
 .have:aD (row h k aj)=true:=ou hk;rw[if_pos this];exact ah rr (aW (bL (a0 _ rr (dc _ _ _)) (ou hk)) (ak rr))
 .have:aD (row h k aj)=false:=xx hk;rw[if_neg (by rw[this];decide)];obtain⟨dd,q,rfl⟩:=d.day hk;exact ah rr (aq (bL (a0 _ rr (dc _ _ _)) (xx hk)) (ak (a0 _ rr (bc (d.day_idx hk) rr))))
def dN (aa:LD):Prop:=aa.length<=60/\∀r∈aa,wU r
def dN.rp (g:dN aa):∀r∈aa,nV r:=λr M=>(g.2 r M).rp
def dN.le (g:dN aa):aa.length<=1000:=vR g.1 O9
def aB (h:x∈ag aa ae):aa[x.2]? = some x.1:=by
 obtain⟨h1,_⟩:=vN h;exact mem_zipIdx_iff_getElem?.mp h1
theorem bM (aa:LD)(ae:Int):(ag aa ae).length<=aa.length:=by
 have:=vM (λx=>decide (aG x.1<=ae)) aa.zipIdx;rw[length_zipIdx]at this;exact this
theorem cc (aa:LD)(ae:Int):((ag aa ae).map (·.2)).Nodup:=by
 have h1:(aa.zipIdx.map (·.2)).Nodup:=by simp_all[List.nodup_range']
 exact List.Nodup.sublist (List.Sublist.map _ (filter_sublist)) h1
def cJ (aa:LD)(ae:Int):List (D×Nat):=(ag aa ae).filter λx=>!aD x.1
def V6 (aa:LD)(ae:Int):List (D×Nat):=cL (λx=>bP (kA x)) (cJ aa ae)
def Br (h:bP (kA a)=bP (kA b)):a.2=b.2:=by
 have h:[aA _,(a.2:Int)]=[aA _,(b.2:Int)]:=h;lia
def No (ha:a∈ag aa ae)(hb:b∈ag aa ae)(h:a.2=b.2):a=b:=by
 have h1:=aB ha;have h2:=aB hb;rw[h,h2]at h1;exact Prod.ext (vK h1).symm h
def oR (g:dN aa)(ae:Int):eJ [.tup aa,.int ae]=lT ((V6 aa ae).map λx=>.int x.2):=by
 have hl:=g.1;have m:=bM aa ae;have O:∀x∈ag aa ae,mQ aa (x.2:Int)=some x.1/\wU x.1:=λx hx=>⟨bi (aB hx),g.2 _ (vL (aB hx))⟩;have hc:=di (fi:=dn (fA eY (fV 0 (fV 1 av)))) (nT:=1) (cap:=[0]) (tg:=f7 0) (c:=bx (f2 qd (fA bo (ai (f2 eA (am 1) (am 0)) av)) (fC .non))) (fe:=am 0) (ρ:=[sT aa,sI ae,none]) (ag aa ae) (λx=>.int x.2) (λx=>!aD x.1) (λx=>.int x.2)
  (by
   show(fA eY (fV 0 (fV 1 av)) _).bind _=_;rw[a0 [.tup aa,.int ae] rr (jK aa g.rp g.le ae)];rfl) N9 λx hx=>by
   obtain⟨ha,f⟩:=O x hx;refine⟨_,rr,cj (aX (tF x.1) .non (a0 [x.1] (by simp[bZ,ha]) (rF f)) rr ?_),λ_=>⟨false,by simp[bZ]⟩⟩;unfold tF;split<;>simp_all
 have i:=hc;have j:aZ ((cJ aa ae).map λx=>D.int x.2)=true:=br λd hd=>by obtain⟨x,_,rfl⟩:=vO hd;rfl
 have n:(cJ aa ae).length<=60:=vR (vM _ _) N9;have M:∀x∈cJ aa ae,x∈ag aa ae/\aD x.1=false:=λx hx=>by
  obtain⟨h1,h2⟩:=vN hx;lia
 have hm:∀ρ:DL.Env,ρ[0]? = some (sT aa)->j4 (yJ [0] (fA gT (fV 1 (fV 0 av))) ρ) ((cJ aa ae).map λx=>.int x.2)=some _:=λρ h0=>
  gz (cJ aa ae) λx hx=>by
   obtain⟨h1,h2⟩:=M x hx;obtain⟨ha,f⟩:=O x h1;have hd:=rF f;unfold tF at hd;rw[h2,if_neg O9]at hd;have k:gT [.tup aa,.int x.2]=sT [.int (aA x.1),.int x.2]:=ah rr (ak (a0 [.int (aA x.1),.int x.2] (a6 (d:=.int (aA x.1)) (b:=false) (a0 [x.1] (by simp[ha]) hd) rr) q9));show(fA gT _ _).map _=_;rw[a0 [.tup aa,.int x.2] (by simp[bZ,h0]) k];rfl
 have hk:du ((cJ aa ae).map λx=>D.tup [.int (aA x.1),.int x.2])=some ((cJ aa ae).map kA):=fO _ λx _=>rr;have hz:((cJ aa ae).map kA).zip ((cJ aa ae).map λx=>D.int x.2)=(cJ aa ae).map λx=>(kA x,D.int x.2):=by rw[zip_map']
 have l:((cJ aa ae).map (·.2)).Nodup:=List.Nodup.sublist (List.Sublist.map _ (filter_sublist)) (cc aa ae);have U:((cJ aa ae).map kA).length<64/\cy ((cJ aa ae).map kA)=true/\cC ((cJ aa ae).map kA)=true/\(((cJ aa ae).map kA).map bP).Nodup:=by
  refine⟨by rw[vI];lia,wT _,?_,?_⟩
  .unfold cC;rw[Bool.or_eq_true];left;simp[all_eq_true,kA]
  .rw[uP];exact List.Pairwise.map _ (λa b h e=>h (Br e)) (pairwise_map.mp l)
 refine ah rr (bE i j (ak ?_));show(wE (am 2) _ _)=_;unfold wE;show((some (D.lst ((cJ aa ae).map λx=>D.int x.2),false)).bind _)=_;simp only[vJ];rw[hm _ rr];simp only[vJ];rw[hk];simp only[vJ];rw[if_pos U];unfold ie;rw[hz];have key:((V6 aa ae).map λx=>(kA x,D.int x.2))=cL (λp:List At×D=>bP p.1) ((cJ aa ae).map λx=>(kA x,D.int x.2)):=by
  refine dS _ (λx hx y hy e=>?_) ((a9 _ _).map _) ?_
  .obtain⟨a,ha,rfl⟩:=vO hx;obtain⟨b,hb,rfl⟩:=vO hy;rw[No (M a ha).1 (M b hb).1 (Br e)]
  .exact pairwise_map.mpr (bR _ _)
 rw[<-key,uP];rfl
structure Cl where
 o:Str
 p:Str
 s:Int
 u:Option Int
 n:Nat
def uD:OI->D
 |none=>.non
 |some x=>.int x
def aT (c:Cl):D:=.tup [.str c.o,.str c.p,.int c.s,uD c.u,.int c.n]
def Dj (u:OI):aO (uD u)=true:=by cases u<;>rfl
theorem mC (c:Cl):aO (aT c)=true:=by simp[aT,Dj]
def i6 (cs:List Cl):aZ (cs.map aT)=true:=by grind[br,mC]
noncomputable def g9 (c:Cl)(day:Int):Bool:=decide (c.s<=day) && (match c.u with|none=>true|some x=>decide (day<x))
def at3 (d e f g:D)(r:LD):mQ (d::e::f::g::r) 3=some g:=by have:=iR (xs:=d::e::f::g::r) (j:=3) H9;simpa using this
def at4 (d e f g h:D)(r:LD):mQ (d::e::f::g::h::r) 4=some h:=by have:=iR (xs:=d::e::f::g::h::r) (j:=4) H9;simpa using this
def WN (c:Cl):eA (aT c) (.int 0)=sS c.o:=by simp[aT,xC]
def Tf (c:Cl):eA (aT c) (.int 1)=sS c.p:=by simp[aT,ER]
def ZP (c:Cl):eA (aT c) (.int 2)=sI c.s:=by simp[aT,at2]
def cl3 (c:Cl):eA (aT c) (.int 3)=some (uD c.u,false):=by simp[aT,at3]
def ZQ (c:Cl):eA (aT c) (.int 4)=sI c.n:=by simp[aT,at4]
def aY (ds:LD)(h:ds.length<=100):bX ds=sT ds:=if_pos (cD N9)
def cw (ds:LD)(h:ds.length<=100):dJ ds=lT ds:=if_pos (cD N9)
def Dk (s day:Int)(u:OI):nN [.int day,.tup [.int s,uD u]]=sO (decide (s<=day) && (match u with|none=>true|some x=>decide (day<x))):=by
 refine ah rr (ak (ci (b1:=false) (by simp[xC]) λ_=>?_));cases u with
 |none=>rfl
 |some x=>rfl
def rG (c:Cl)(day:Int):eK [aT c,.int day]=sO (g9 c day):=
 ah rr (ak (a0 _ (aP rr (aP (a0 _ (a6 (aX _ _ rr rr (ZP c)) (a6 (aX _ _ rr rr (cl3 c)) rr)) (aY _ H9)) rr)) (Dk _ _ _)))
def kS (c:Cl):List At:=[.i c.s,.i c.n]
def nX:Cl->List Cl->Cl
 |b,[]=>b
 |b,x::r=>if aU (kS x) (kS b)=some true then nX x r else nX b r
def wV:Cl->List Cl->Cl
 |b,[]=>b
 |b,x::r=>if aU (kS b) (kS x)=some true then wV x r else wV b r
theorem rH:∀(r:List Cl)(b:Cl),oB (kS b,aT b) (r.map λx=>(kS x,aT x))=aT (nX b r)
 |[],b=>rr
 |x::r,b=>by
  rw[uY,oB,nX];split
  .exact rH r x
  .exact rH r b
theorem rJ:∀(r:List Cl)(b:Cl),o9 (kS b,aT b) (r.map λx=>(kS x,aT x))=aT (wV b r)
 |[],b=>rr
 |x::r,b=>by
  rw[uY,o9,wV];split
  .exact rJ r x
  .exact rJ r b
def Dl (cs:List Cl):cy (cs.map kS)=true:=by
 simp_all[cy,kS,RU]
def rK (ρ:DL.Env)(cs:List Cl):j4 (E6 iW ρ) (cs.map aT)=some (cs.map λc=>.tup [.int c.s,.int c.n]):=gz cs λc _=>by
 rfl
def oS (cs:List Cl):du (cs.map λc=>D.tup [.int c.s,.int c.n])=some (cs.map kS):=fO cs λc _=>rr
def JB (e:f ρ=some (.lst ((b::r).map aT),bb)):Cy f (E6 iW) ρ=some (aT (nX b r),false):=by
 unfold Cy Rt;rw[e,vJ];dsimp;rw[rK,vJ,oS,vJ,if_pos (Dl _)];have:((b::r).map kS).zip ((b::r).map aT)=(kS b,aT b)::r.map λx=>(kS x,aT x):=by rw[zip_map'];rfl
 rw[this];show some _=_;rw[rH]
def RV (e:f ρ=some (.lst ((b::r).map aT),bb)):Cw f (E6 iW) ρ=some (aT (wV b r),false):=by
 unfold Cw Rt;rw[e,vJ];dsimp;rw[rK,vJ,oS,vJ,if_pos (Dl _)];have:((b::r).map kS).zip ((b::r).map aT)=(kS b,aT b)::r.map λx=>(kS x,aT x):=by rw[zip_map'];rfl
 rw[this];show some _=_;rw[rJ]
def jc (rl:Str)(b:Cl)(r:List Cl):Cl:=if rl = "last" then wV b r else nX b r
def JD (rl:Str)(b:Cl)(r:List Cl):ra [.lst ((b::r).map aT),.str rl]=sS (jc rl b r).p:=by
 unfold jc;by_cases h:rl = "last"
 .rw[if_pos h];exact ah rr (aW (bL rr (ou h)) (ak (aX _ _ (RV rr) rr (Tf _))))
 .rw[if_neg h];exact ah rr (aq (bL rr (xx h)) (ak (aX _ _ (JB rr) rr (Tf _))))
theorem rL:∀(r:List Cl)(b:Cl),nX b r∈b::r
 |[],b=>by simp[nX]
 |x::r,b=>by
  rw[nX];split
  .exact mZ _ (rL r x)
  .rcases vP (rL r b)with h|h
   .rw[h];exact mX
   simp_all
theorem rM:∀(r:List Cl)(b:Cl),wV b r∈b::r
 |[],b=>by simp[wV]
 |x::r,b=>by
  rw[wV];split
  .exact mZ _ (rM r x)
  .rcases vP (rM r b)with h|h
   .rw[h];exact mX
   simp_all
def ES (rl:Str)(b:Cl)(r:List Cl):jc rl b r∈b::r:=by
 grind[jc,rM,rL]
noncomputable def V7 (cs:List Cl)(o:Str)(day:Int):List Cl:=cs.filter λc=>decide (c.o=o) && g9 c day
def nY (cs:List Cl):LS:=kP (eB (cs.map (·.p)))
def V8:List Cl->Nat
 |[]=>0
 |b::r=>(nX b r).n
def oV (rl:Str):List Cl->D
 |[]=>.tup [.str "none"]
 |b::r=>if 1<(nY (b::r)).length/\rl = "open" then .tup [.str "parted",.lst ((nY (b::r)).map .str)]
  else .tup [.str "one",.str (jc rl b r).p,.int (V8 ((b::r).filter λc=>decide (c.p=(jc rl b r).p)))]
def gA (cs:List Cl)(o rl:Str)(day:Int):D:=oV rl (V7 cs o day)
theorem Np {z:Str}:eB (z::zs)≠[]:=by
 have:∀(ss:List _)(M:List _),z∈M->z∈ss.foldl gQ M:=λss=>by
  induction ss with
  |nil=>intro M h;exact h
  |cons a l O=>intro M h;exact O _ (yt.mpr (.inl h))
 grind[gQ,eB]
def oW:aw [row h ("root" : Str) [.str o,.int m,.int f,.str rl],.str "office"]=sS o:=bc (i:=0) bW rr
def ET:aw [row h ("root" : Str) [.str o,.int m,.int f,.str rl],.str "rule"]=sS rl:=bc (i:=3) bW rr
def mD (zs:LS):dL (zs.map .str)=some zs:=by
 simp
def jd (cs:List Cl)(hl:cs.length<=60)(day:Int):oH [.lst (cs.map aT),row h ("root" : Str) [.str o,.int m,.int f,.str rl],.int day]=some (gA cs o rl day,false):=by
 let rt:D:=row h ("root" : Str) [.str o,.int m,.int f,.str rl];have h1:=di (fi:=dn (am 0)) (nT:=1) (cap:=[2,1]) (tg:=f7 0) (c:=fg (bx (f2 jV (gR 0 0) (fA aw (fV 2 (ai (fS "office") av))))) (bx (fA eK (fV 0 (fV 1 av))))) (fe:=am 0)
  (ρ:=[sL (cs.map aT),some (rt,false),sI day,none,none,none,none]) cs aT (λc=>decide (c.o=o) && g9 c day) aT H9 N9 λc hc=>by
   refine⟨_,rr,bO (cj (aX (.str c.o) (.str o) (aX (aT c) (.int 0) (by simp[bZ]) rr (WN c)) (a0 [rt,.str "office"] (by simp[bZ]) oW) H9)) λ_=>cj (a0 [aT c,.int day] (by simp[bZ]) (rG c day)),λ_=>⟨false,by simp[bZ]⟩⟩
 have d:fW (dn (am 0)) 1 [2,1] (f7 0) _ (am 0) _=lT ((V7 cs o day).map aT):=h1;have a:(V7 cs o day).length<=60:=vR (vM _ _) hl;unfold gA;generalize V7 cs o day=al at d a;have h2:∀ρ:DL.Env,ρ[3]? = some (lT (al.map aT))->f1 ml (fW (dn (am 3)) 1 [] (f7 0) xU (gR 0 1)) ρ=lT ((nY al).map .str):=λρ h3=>by
  have hc:=ir (fi:=dn (am 3)) (nT:=1) (cap:=[]) (tg:=f7 0) (fe:=gR 0 1) (ρ:=ρ) al aT (λc=>.str c.p) (by simp[h3]) N9 λc hc=>⟨_,rr,false,aX (aT c) (.int 1) (by simp[bZ]) rr (Tf c)⟩;have e2:al.map (λc=>D.str c.p)=(al.map (·.p)).map .str:=by rw[uP];rfl
  rw[e2]at hc;unfold f1;rw[hc,vJ];show(dL ((al.map (·.p)).map .str)).bind _=_;rw[mD,vJ,if_pos (by rw[vI];lia)];rfl
 have i:aZ ((nY al).map D.str)=true:=cV _;refine ah rr (bE (ds:=al.map aT) d (i6 al) (bE (ds:=(nY al).map .str) (h2 _ rr) i ?_));cases al with
 |nil=>rfl
 |cons b r=>
  have j:(nY (b::r)).length≠0:=by
   unfold nY;rw[(cz _).length_eq];grind[Np]
  refine aq (cj (by simp[j])) ?_;have M:∀ρ:DL.Env,ρ[1]? = some (some (rt,false))->fA aw (fV 1 (ai (fS "rule") av)) ρ=sS rl:=λρ k=>a0 [rt,.str "rule"] (by simp[k]) ET;by_cases hp:1<(nY (b::r)).length/\rl = "open"
  .have:oV rl (b::r)=.tup [.str "parted",.lst ((nY (b::r)).map .str)]:=by rw[oV,if_pos hp]
   rw[this];exact aW (bO (p:=true) (q:=true) (cj s9) λ_=>bL (bb:=false) (M _ rr) (ou hp.2)) (ak (a0 [.str "parted",.lst ((nY (b::r)).map .str)] H9 (aY _ H9)))
  .have:oV rl (b::r)=.tup [.str "one",.str (jc rl b r).p,.int (V8 ((b::r).filter λc=>decide (c.p=(jc rl b r).p)))]:=by rw[oV,if_neg hp]
   rw[this];have O:fg (bx (f2 SU (fA lh (fV 4 av)) (fI 1))) (bx (f2 jV (fA aw (fV 1 (ai (fS "rule") av))) (fS "open"))) [sL (cs.map aT),some (rt,false),sI day,lT ((b::r).map aT),lT ((nY (b::r)).map .str),none,none]=some false:=by
    by_cases h5:1<(nY (b::r)).length
    .exact bO (p:=true) (q:=false) (cj s9) λ_=>bL (bb:=false) (M _ rr) (xx λe=>hp ⟨h5,e⟩)
    .exact bO (p:=false) (q:=false) (cj s9) H9
   have l:=ES rl b r;let ch:=jc rl b r;have g:=di (fi:=dn (am 3)) (nT:=1) (cap:=[5]) (tg:=f7 0) (c:=bx (f2 jV (gR 0 1) (am 1))) (fe:=am 0) (ρ:=[sL (cs.map aT),some (rt,false),sI day,lT ((b::r).map aT),lT ((nY (b::r)).map .str),sS ch.p,none]) (b::r) aT (λc=>decide (c.p=ch.p)) aT H9 N9 λc hc=>⟨_,rr,cj (aX (.str c.p) (.str ch.p) (aX (aT c) (.int 1) (by simp[bZ]) rr (Tf c)) (by simp[bZ]) H9),λ_=>⟨false,by simp[bZ]⟩⟩;obtain⟨b2,U,hf⟩:∃b2 U,(b::r).filter (λc=>decide (c.p=ch.p))=b2::U:=by
    cases hq:(b::r).filter (λc=>decide (c.p=ch.p)) with
    |nil=>
     have:=List.filter_eq_nil_iff.mp hq _ l;simp[ch]at this
    |cons b2 U=>exact⟨b2,U,rr⟩
   rw[hf]at g |-;refine aq O (f9 (.str ch.p) (a0 [.lst ((b::r).map aT),.str rl] (aP H9 (a6 (M _ rr) rr)) (JD rl b r)) rr (f9 (aT (nX b2 U)) (JB (bb:=true) g) (mC _) (ak (a0 [.str "one",.str ch.p,.int (nX b2 U).n] (aP rr (aP rr (a6 (aX (aT (nX b2 U)) (.int 4) rr rr (ZQ _)) rr))) (aY _ H9)))))
def JF:D->D
 |.tup ds=>.tup (pi ds none (some 2))
 |d=>d
def dv (cs:List Cl)(o rl p:Str)(day:Int):Bool:=dm (JF (gA cs o rl day)) (.tup [.str "one",.str p])
def u7 (rl:Str)(M:List Cl):∃ds,oV rl M=.tup ds/\ds.all (aQ 5)=true:=by
 cases M with
 |nil=>exact⟨_,rr,H9⟩
 |cons b r=>
  rw[oV];split
  .simp
  .exact⟨_,rr,H9⟩
def zf (h:ds.all (aQ 5)=true):(pi ds lo hi).all (aQ 5)=true:=by
 rw[all_eq_true]at h |-;exact λd hd=>h d (List.mem_of_mem_drop (mem_of_mem_take hd))
def kn (h:ds.all (aQ 5)=true):aQ 40 (.tup ds)=true:=jb 6 40 _ O9 (by simpa only[aQ]using h)
def wW (cs:List Cl)(hl:cs.length<=60)(p:Str)(day:Int):dX [.lst (cs.map aT),row h ("root" : Str) [.str o,.int m,.int f,.str rl],.str p,.int day]=sO (dv cs o rl p day):=by
 have hb:=jd cs hl (h:=h) (o:=o) (rl:=rl) (m:=m) (f:=f) day;obtain⟨ds,e,hd⟩:=u7 rl _;have M:gA cs o rl day=.tup ds:=e;refine ah rr (ak (aX (JF (gA cs o rl day)) (.tup [.str "one",.str p]) ?_ q9 ?_))
 .have hc:=aK (fa:=fV 0 (fV 1 (fV 3 av))) (ρ:=[sF _,some (row h _ _,false),sS p,sF _]) rr hb;rw[M]at hc |-;unfold M3;rw[show(List.map _ _++List.replicate 0 _:DL.Env)=[sF _,some _,sF _,sF _]from rr,hc];rfl
 .unfold dv jV;rw[if_pos];rw[M];exact⟨kn (zf hd),kn H9⟩
noncomputable def ao (j:Nat):D->Str
 |.tup [_,.tup (_::aj)]=>match aj[j]? with
  |some (.str s)=>s
  |_=>("" : Str)
 |_=>("" : Str)
noncomputable def dz (j:Nat):D->Int
 |.tup [_,.tup (_::aj)]=>match aj[j]? with
  |some (.int s)=>s
  |_=>0
 |_=>0
def Cd.root_of (h:Cd ("root" : Str) r):∃o rl,∃m f:Int,r=[.str o,.int m,.int f,.str rl]:=by
 generalize hk:("root" : Str)=k at h;cases h with
 |root o rl m f=>exact⟨o,rl,m,f,rr⟩
 |named=>exact cN hk
 |chosen=>exact cN hk
 |heir=>exact cN hk
 |three _ hh=>rcases hh with rfl|rfl|rfl<;>exact cN hk
 |other _ hh=>rcases hh with rfl|rfl|rfl|rfl|rfl<;>exact cN hk
def u8 {κ α:Type}[DecidableEq κ]{ks:List κ}{k:κ}{x y:α}:∀ {xs:List α},y∈cM ks xs k x->y=x\/y∈xs:=by
 intro xs h;unfold cM at h;split at h
 .rename_i M;clear M;induction ks generalizing xs with
  |nil=>simp at h
  |cons a ks O=>
   cases xs with
   |nil=>simp at h
   |cons b xs=>
    grind[List.zipWith_cons_cons]
 grind
theorem u9:∀(l:List (cZ×D))(a:LK×LD)(y:D),y∈(l.foldl qF a).2->y∈a.2\/∃p∈l,p.2=y
 |[],a,y,h=>.inl h
 |p::l,a,y,h=>by
  rcases u9 l _ y h with h|⟨q,hq,e⟩
  .rcases u8 (show y∈cM _ _ _ _ from h)with h|h
   .exact .inr ⟨p,mX,h.symm⟩
   .exact .inl h
  .exact .inr ⟨q,mZ _ hq,e⟩
theorem uA {α:Type}(f:α->Str)(g:α->D):∀(l:List α),eG (l.map λx=>D.tup [.str (f x),g x])=some (l.map λx=>(.inr (f x),g x))
 |[]=>rr
 |x::l=>by
  show((ji _).bind _)=_;rw[uA f g l];rfl
theorem rN {κ:Type}[DecidableEq κ]:∀ {ks:List κ}{vs:LD}{k:κ}{v:D},bC ks vs k=some v->v∈vs
 |k'::ks,d::ds,k,v,h=>by
  unfold bC at h;split at h
  .cases h;exact mX
  .exact mZ _ (rN h)
 |[],_,_,_,h=>by simp[bC]at h
 |_::_,[],_,_,h=>by simp[bC]at h
noncomputable def kZ (KL:List (D×Nat)):List (cZ×D):=(KL.filter λx=>aD x.1).map λx=>(.inr (ao 0 x.1),x.1)
def rO (KL:List (D×Nat))(o:Str):Option D:=bC (bD (kZ KL)).1 (bD (kZ KL)).2 (.inr o)
def rP (g:wU r)(h:aD r=true):∃a o rl,∃m f:Int,r=row a ("root" : Str) [.str o,.int m,.int f,.str rl]:=by
 obtain⟨a,k,aj,rfl,d⟩:=g;have hk:=xy h;subst hk;obtain⟨o,rl,m,f,rfl⟩:=d.root_of;exact⟨a,o,rl,m,f,rr⟩
def cI (g:dN aa)(hx:x∈ag aa ae):mQ aa (x.2:Int)=some x.1/\wU x.1:=⟨bi (aB hx),g.2 _ (vL (aB hx))⟩
def zg (g:dN aa)(h:rO (ag aa ae) o=some v):∃a M rl,∃m f:Int,v=row a ("root" : Str) [.str M,.int m,.int f,.str rl]:=by
 have hv:=rN h;rcases u9 _ _ v hv with h|⟨p,hp,e⟩
 .cases h
 .obtain⟨x,hx,rfl⟩:=vO hp;obtain⟨h1,h2⟩:=vN hx;rw[<-e];exact rP (cI g h1).2 h2
def mE (g:dN aa)(ae:Int):iV [.tup aa,.int ae]=sF (.dk (bD (kZ (ag aa ae))).1 (bD (kZ (ag aa ae))).2):=by
 have hl:=bM aa ae;have O:=g.1;have h1:=ir (fi:=dn _) (nT:=1) (cap:=[0]) (tg:=f7 0) (fe:=f2 eA (am 1) (am 0)) (ρ:=[sT aa,sF _,none]) (ag aa ae) _ Prod.fst
  (by
   show(fA eY (fV 0 (fV 1 av)) _).bind _=_;rw[a0 _ rr (jK aa g.rp g.le ae)];rfl) N9 λx hx=>by
   have ha:=(cI g hx).1;exact⟨_,rr,false,by simp[bZ,ha]⟩
 have hn:aZ ((ag aa ae).map Prod.fst)=true:=br λd hd=>by
  obtain⟨x,hx,rfl⟩:=vO hd;exact(cI g hx).2.rp.flat
 have h2:=di (fi:=dn (am 2)) (nT:=1) (cap:=[]) (tg:=f7 0) (c:=bx (f2 jV (fA bj (fV 0 av)) (fS "root"))) (fe:=fA bX (ai (fA aw (fV 0 (ai (fS "office") av))) (fV 0 av)))
  (ρ:=[sT aa,sI ae,lT ((ag aa ae).map Prod.fst)]) (ag aa ae) Prod.fst _ (λx=>.tup [.str (ao 0 x.1),x.1]) H9 N9 λx hx=>by
   have M:=(cI g hx).2;refine⟨_,rr,bL (a0 [x.1] rr (gU M)) rr,λhp=>⟨false,?_⟩⟩;obtain⟨a,o,rl,m,f,e⟩:=rP M hp;rw[e];rfl
 refine ah rr (bE h1 hn (ak (a0 _ (a6 h2 rr) ?_)));show(eG _).map _=_;rw[uA _ Prod.fst];rfl
def rQ:D×Nat->List (D×Nat)->D×Nat
 |b,[]=>b
 |b,x::r=>if aU (kA x) (kA b)=some true then rQ x r else rQ b r
theorem wZ:∀(r:List (D×Nat))(b:D×Nat),oB (kA b,.int b.2) (r.map λx=>(kA x,D.int x.2))=.int (rQ b r).2
 |[],b=>rr
 |x::r,b=>by
  rw[uY,oB,rQ];split
  .exact wZ r x
  .exact wZ r b
def fB (KL:List (D×Nat))(p:Str)(day:Int)(i:Nat):Bool:=match KL.filter (λx=>told dY p day x.1) with
 |[]=>false
 |b::r=>decide ((rQ b r).2=i)
def JG (g:dN aa)(ae:Int)(hx:x∈ag aa ae)(e:x.1=row a ("death" : Str) [.int d,.str p]):eN [.tup aa,.int ae,.int x.2]=sO (fB (ag aa ae) p d x.2):=by
 have ha:=(cI g hx).1;have l:=(cI g hx).2;have j:=wR aa g.rp g.le ae dY dZ p d;have O:aw [x.1,.str "person"]=sS p:=by rw[e];exact bc (i:=1) bW rr
 have U:bo [x.1]=sI d:=by rw[e];rfl
 have M:x∈pw aa ae dY p d:=mem_filter.mpr ⟨hx,by simp_all[told,row,dY,rq]⟩;have f:fB (ag aa ae) p d x.2=match pw aa ae dY p d with|[]=>false|b::r=>decide ((rQ b r).2=x.2):=rr
 have key:∀y∈pw aa ae dY p d,∃h k dd,aa[y.2]? = some _/\y.1=row h k [.int dd,.str p]/\cb k=true:=λy hy=>by
  obtain⟨c,m⟩:=Dg hy;obtain⟨h,k,dd,e2,h3,_⟩:=rA dZ (g.rp _ (vL c)) m;exact⟨h,k,dd,by rw[c,e2],e2,h3⟩
 rw[f];cases hs:pw aa ae dY p d with
 |nil=>rw[hs]at M;cases M
 |cons b r=>
  rw[hs]at j key;have hm:∀ρ:DL.Env,ρ[0]? = some (sT aa)->j4 (yJ [0] (fA gT (fV 1 (fV 0 av))) ρ) ((b::r).map λy=>.int y.2)=some ((b::r).map λy=>.tup [.int (aA y.1),.int y.2]):=λρ h0=>
   gz (b::r) λy hy=>by
    obtain⟨h,k,dd,c,e2,h3⟩:=key y hy;show(fA gT _ _).map _=_;rw[a0 [.tup aa,.int y.2] (by simp[bZ,h0]) (Dh c h3),e2];rfl
  have hk:du ((b::r).map λy=>D.tup [.int (aA y.1),.int y.2])=some ((b::r).map kA):=fO _ λy _=>rr;have hz:((b::r).map kA).zip ((b::r).map λy=>D.int y.2)=(kA b,D.int b.2)::r.map λy=>(kA y,D.int y.2):=by rw[zip_map'];rfl
  have n:aZ ((b::r).map λy=>D.int y.2)=true:=br λd hd=>by obtain⟨y,_,rfl⟩:=vO hd;rfl
  refine ah rr (f9 x.1 (by simp[ha]) l.rp.flat (bE (a0 [.tup aa,.int ae,.tup (dY.map .str),.str p,.int d] (aP rr (aP rr (aP (a0 [.str "death"] rr (aY _ H9)) (a6 (a0 [x.1,.str "person"] rr O) (a6 (a0 [x.1] rr U) rr))))) j) n (ak (aX (.int (rQ b r).2) (.int x.2) ?_ rr ?_))))
  .unfold Cy Rt;show((some _).bind _)=_;rw[vJ];dsimp only;rw[hm _ rr,vJ,hk,vJ,if_pos (wT _),hz];simp_all[wZ]
  simp_all<;>lia
abbrev KL:=List (D×Nat)
noncomputable def jN (K:KL)(p:Str)(day:Int):Bool:=(K.filter λx=>told dY p day x.1).isEmpty
def zh (K:KL)(p:Str)(day:Int):Bool:=match Pf (K.filter λx=>told oP p day x.1) with
 |none=>true
 |some x=>decide (kindOf x.1 = "found")
def gB (K:KL)(r:D):Bool:=c8 (kindOf r) && (jN K (cP r) (aA r) && zh K (cP r) (aA r))
def JH (r:D):Str:=if kindOf r = "named" then ao 1 r else ao 2 r
noncomputable def rR:LS:=[("named" : Str),"chosen","heir"]
def bH (K:KL)(M:List Cl)(x:D×Nat):Bool:=
 if kindOf x.1 = "death" then fB K (ao 1 x.1) (aA x.1) x.2
 else if kindOf x.1∈rR then match rO K (JH x.1) with
  |none=>false
  |some v=>if kindOf x.1 = "named" then true else gB K x.1 && dv M (ao 0 v) (ao 3 v) (ao 1 x.1) (aA x.1)
 else false
def xa (aa:LD)(ae:Int)(p:Str)(day:Int):cW aa ae p day=jN (ag aa ae) p day:=rfl
def JJ (aa:LD)(ae:Int)(p:Str)(day:Int):fw aa ae p day=zh (ag aa ae) p day:=rfl
def Nq (h:aG r<=ae):c9 aa ae r=gB (ag aa ae) r:=by
 unfold c9 gB;rw[ou h];rfl
def EU (g:dN aa)(ae:Int)(M:List Cl)(n:M.length<=60)(hx:x∈ag aa ae)(U:aD x.1=false):rb [.tup aa,.int ae,.lst (M.map aT),.int x.2]=sO (bH (ag aa ae) M x):=by
 obtain⟨ha,c⟩:=cI g hx;have hh:aG x.1<=ae:=xy (vN hx).2;have hf:aO x.1=true:=c.rp.flat;have hw:∀ρ:DL.Env,ρ[4]? = some (some (x.1,false))->fA bj (fV 4 av) ρ=sS (kindOf x.1):=λρ h4=>a0 [x.1] (by simp[h4]) (gU c);have O:∀ρ:DL.Env,ρ[4]? = some (some (x.1,false))->bx (f2 dE (fA bj (fV 4 av)) (fA bX (ai (fS "named") (ai (fS "chosen") (ai (fS "heir") av))))) ρ=some (!decide (kindOf x.1∈rR)):=λρ h4=>
  cj (aX (.str (kindOf x.1)) (.tup (rR.map .str)) (hw ρ h4) (by simp[sizeLine,rR]) (oQ _ _))
 by_cases hd:kindOf x.1 = "death"
 .obtain⟨a,k,aj,e,d⟩:=c;have hk:k = "death":=by rw[e]at hd;exact hd
  subst hk;obtain⟨dd,p,rfl⟩:=d.deed.three I9;have hc:bH (ag aa ae) M x=fB (ag aa ae) p dd x.2:=by
   unfold bH;rw[if_pos hd,e];rfl
  rw[hc];exact ah rr (f9 x.1 (by simp[ha]) hf (aW (bL (bb:=false) (hw _ rr) (ou hd)) (ak (a0 [.tup aa,.int ae,.int x.2] rr (JG g ae hx e)))))
 .by_cases h3:kindOf x.1∈rR
  .have q:aw [x.1,.str "office"]=sS (JH x.1):=by
    obtain⟨a,k,aj,e,d⟩:=c;rw[e]at h3 hd U |-;replace h3:k∈rR:=h3;clear hd U;cases d with
    |root=>exact cN h3
    |named d o p=>exact bc (i:=1) bW rr
    |chosen d b o p s=>exact bc (i:=2) bW rr
    |heir d b o p=>exact bc (i:=2) bW rr
    |three _ hk=>rcases hk with rfl|rfl|rfl<;>exact cN h3
    |other _ hk=>rcases hk with rfl|rfl|rfl|rfl|rfl<;>exact cN h3
   have h:∀ρ:DL.Env,ρ[0]? = some (sT aa)->ρ[1]? = some (sI ae)->ρ[4]? = some (some (x.1,false))->f2 Vn (fA iV (fV 0 (fV 1 av))) (fA aw (fV 4 (ai (fS "office") av))) ρ=some ((rO (ag aa ae) (JH x.1)).getD .non,false):=λρ r t u=>
    aX (.dk (bD (kZ (ag aa ae))).1 (bD (kZ (ag aa ae))).2) (.str (JH x.1)) (a0 [.tup aa,.int ae] (by simp[r,t]) (mE g ae)) (a0 [x.1,.str "office"] (by simp[u]) q) rr
   cases f:rO (ag aa ae) (JH x.1) with
   |none=>
    rw[f]at h;have hc:bH (ag aa ae) M x=false:=by unfold bH;rw[if_neg hd,if_pos h3,f]
    rw[hc];exact ah rr (f9 x.1 (by simp[ha]) hf (aq (bL (bb:=false) (hw _ rr) (xx hd)) (aq (by rw[O _ rr,ou h3];rfl) (f9 .non (h _ rr rr rr) rr (aW (cj (aX .non .non rr rr H9)) (ak rr))))))
   |some v=>
    rw[f]at h;obtain⟨z,A,w,B,C,ev⟩:=zg g f;have j:aO v=true:=by rw[ev];rfl
    have l:SW v .non=sO false:=by rw[ev];simp[row]
    by_cases hn:kindOf x.1 = "named"
    .have hc:bH (ag aa ae) M x=true:=by unfold bH;rw[if_neg hd,if_pos h3,f];dsimp only;rw[if_pos hn]
     rw[hc];exact ah rr (f9 x.1 (by simp[ha]) hf (aq (bL (bb:=false) (hw _ rr) (xx hd)) (aq (by rw[O _ rr,ou h3];rfl) (f9 v (h _ rr rr rr) j (aq (cj (aX v .non rr rr l)) (aW (bL (bb:=false) (hw _ rr) (ou hn)) (ak rr)))))))
    .have hc:bH (ag aa ae) M x=(gB (ag aa ae) x.1 && dv M (ao 0 v) (ao 3 v) (ao 1 x.1) (aA x.1)):=by unfold bH;rw[if_neg hd,if_pos h3,f];dsimp only;rw[if_neg hn]
     have m:aw [x.1,.str "by"]=sS (ao 1 x.1)/\bo [x.1]=sI (aA x.1):=by
      refine⟨?_,by rw[rF c];unfold tF;rw[U];rfl⟩;obtain⟨a,k,aj,e,d⟩:=c;rw[e]at h3 hn |-;replace h3:k∈rR:=h3;cases d with
      |root=>exact cN h3
      |named=>exact absurd rr hn
      |chosen d b o p s=>exact bc (i:=1) bW rr
      |heir d b o p=>exact bc (i:=1) bW rr
      |three _ hk=>rcases hk with rfl|rfl|rfl<;>exact cN h3
      |other _ hk=>rcases hk with rfl|rfl|rfl|rfl|rfl<;>exact cN h3
     have hs:=rE aa g.rp g.le ae (aB hx);rw[Nq hh]at hs;have y:dX [.lst (M.map aT),v,.str (ao 1 x.1),.int (aA x.1)]=sO (dv M (ao 0 v) (ao 3 v) (ao 1 x.1) (aA x.1)):=by
      rw[ev];exact wW M n _ _
     rw[hc];refine ah rr (f9 x.1 (by simp[ha]) hf (aq (bL (bb:=false) (hw _ rr) (xx hd)) (aq (by rw[O _ rr,ou h3];rfl) (f9 v (h _ rr rr rr) j (aq (cj (aX v .non rr rr l)) (aq (bL (bb:=false) (hw _ rr) (xx hn)) (ak ?_)))))));exact ci (b1:=false) (a0 [.tup aa,.int ae,.int x.2] rr hs) λ_=>a0 [.lst (M.map aT),v,.str (ao 1 x.1),.int (aA x.1)] (aP rr (aP rr (a6 (a0 [x.1,.str "by"] rr m.1) (a6 (a0 [x.1] rr m.2) rr)))) y
  .have hc:bH (ag aa ae) M x=false:=by unfold bH;rw[if_neg hd,if_neg h3]
   rw[hc];exact ah rr (f9 x.1 (by simp[ha]) hf (aq (bL (bb:=false) (hw _ rr) (xx hd)) (aW (by rw[O _ rr,xx h3];rfl) (ak rr))))
def eP (M:LS)(p:Str)(day:Int)(c:Cl):List Cl:=
 if(!decide (c.o∈M) || (!decide (c.p=p) || !(g9 c day || decide (day<c.s))))=true then [c]else if c.s<day then [⟨c.o,p,c.s,some day,c.n⟩]else []
noncomputable def ca (O:List Cl)(M:LS)(p:Str)(day:Int):List Cl:=O.flatMap (eP M p day)
theorem eQ (M:LS)(p:Str)(day:Int):∀O:List Cl,(ca O M p day).length<=O.length
 |[]=>vT _
 |c::O=>by
  unfold ca;rw[flatMap_cons,uZ,vE];have h1:=eQ M p day O;have h2:(eP M p day c).length<=1:=by
   unfold eP;split
   .simp
   .split<;>simp
  unfold ca at h1;lia
def Bt (k:Str)(ws:LS):dE (.str k) (.lst (ws.map .str))=sO (!decide (k∈ws)):=by
 simp only[dE,fm,vJ,mB];rw[if_pos ⟨rr,km ws⟩]
def zi (U:List Cl)(r:U.length<=60)(M:LS)(p:Str)(day:Int):CN [.lst (U.map aT),.lst (M.map .str),.str p,.int day]=lT ((ca U M p day).map aT):=by
 obtain⟨ρ',e,h,rfl⟩:=dW (tg:=f7 5) (g:=za) (λj ρ=>∃h:OB,ρ=[sL (U.map aT),sL (M.map .str),sS p,sI day,lT ((ca (U.take j) M p day).map aT),h]) (U.map aT)
  [sL (U.map aT),sL (M.map .str),sS p,sI day,lT [],none] ⟨none,rr⟩ (by
   rintro j d ρ hd ⟨h,rfl⟩;rw[vA]at hd;obtain⟨c,hc,rfl⟩:=oY hd;have i:ca (U.take (j+1)) M p day=ca (U.take j) M p day++eP M p day c:=by
    simp_all[ca,take_add_one]
   have t:(ca (U.take j) M p day).length<=60:=vR (eQ M p day _) (by rw[length_take];lia);let a:DL.Env:=[sL (U.map aT),sL (M.map .str),sS p,sI day,lT ((ca (U.take j) M p day).map aT),some (aT c,false)];have k:gR 5 0 a=sS c.o:=aX (aT c) (.int 0) rr rr (WN c);have l:gR 5 1 a=sS c.p:=aX (aT c) (.int 1) rr rr (Tf c);have q2:gR 5 2 a=sI c.s:=aX (aT c) (.int 2) rr rr (ZP c);have m:gR 5 4 a=sI c.n:=aX (aT c) (.int 4) rr rr (ZQ c);have O:iF (bx (f2 dE (gR 5 0) (am 1))) (iF (bx (f2 wg (gR 5 1) (am 2))) (jh (iF (bx (fA eK (fV 5 (fV 3 av)))) (bx (f2 SU (gR 5 2) (am 3)))))) a=some (!decide (c.o∈M) || (!decide (c.p=p) || !(g9 c day || decide (day<c.s)))):=
    bw (cj (aX (.str c.o) (.lst (M.map .str)) k rr (Bt _ _))) λ_=>bw (cj (aX (.str c.p) (.str p) l rr H9)) λ_=>ba (bw (cj (a0 [aT c,.int day] rr (rG c day))) λ_=>cj (aX (.int c.s) (.int day) q2 rr H9))
   by_cases h1:(!decide (c.o∈M) || (!decide (c.p=p) || !(g9 c day || decide (day<c.s))))=true
   .have f:eP M p day c=[c]:=by unfold eP;rw[if_pos h1]
    rw[h1]at O;refine⟨_,_,rr,.inl (l5 O (iT (ds:=(ca (U.take j) M p day).map aT) (d:=aT c) (b:=false) rr rr (mC c) (bq s9))),some (aT c,false),?_⟩;rw[i,f,uW];rfl
   .rw[Bool.not_eq_true]at h1;rw[h1]at O;by_cases h2:c.s<day
    .have f:eP M p day c=[⟨c.o,p,c.s,some day,c.n⟩]:=by unfold eP;rw[if_neg (by rw[h1];decide),if_pos h2]
     refine⟨_,_,rr,.inl (iS O (l5 (cj (aX (.int c.s) (.int day) q2 rr (by simp[h2]))) (iT (ds:=(ca (U.take j) M p day).map aT) (d:=aT ⟨c.o,p,c.s,some day,c.n⟩) (b:=false) rr (a0 [.str c.o,.str p,.int c.s,.int day,.int c.n] (a6 k (aP rr (a6 q2 (aP rr (a6 m rr))))) (aY _ H9)) (mC _) (bq s9)))),some (aT c,false),?_⟩;rw[i,f,uW];rfl
    .have f:eP M p day c=[]:=by unfold eP;rw[if_neg (by rw[h1];decide),if_neg h2]
     refine⟨_,_,rr,.inl (iS O (iS (cj (aX (.int c.s) (.int day) q2 rr s9)) rr)),some (aT c,false),?_⟩;rw[i,f,uQ];rfl)
 have q:f8 (f7 5) za (U.map aT) [sL (U.map aT),sL (M.map .str),sS p,sI day,lT [],none]=some (.nx [sL (U.map aT),sL (M.map .str),sS p,sI day,lT ((ca U M p day).map aT),h]):=by
  simp_all
 exact ah rr (bE (ds:=[]) q9 rr (cu (fG (ds:=U.map aT) (by simp[jm]) q) (m5 rr)))
def V9 (ho:aw [r,.str "office"]=sS o)(hp:aw [r,.str "person"]=sS p)(s:Int)(n:Nat):jG [r,.int s,.int n]=some (aT ⟨o,p,s,none,n⟩,false):=
 ah rr (ak (a0 _ (a6 (a0 _ rr ho) (a6 (a0 _ rr hp) rr)) (aY _ H9)))
def EV (M:List Cl)(O:M.length<=60)(n:Nat):jH [.lst (M.map aT),row a ("chosen" : Str) [.int d,.str b,.str o,.str p,.int s],.int n]=lT ((ca M [o] b s++[(⟨o,p,s,none,n⟩:Cl)]).map aT):=by
 let r:D:=row a ("chosen" : Str) [.int d,.str b,.str o,.str p,.int s];have ho:aw [r,.str "office"]=sS o:=bc (i:=2) bW rr;have hb:aw [r,.str "by"]=sS b:=bc (i:=1) bW rr;have hs:aw [r,.str "since"]=sI s:=bc (i:=4) bW rr;have hl:=eQ [o] b s M;refine ah rr (f9 (.int s) (a0 _ rr hs) rr (bE (a0 _ (aP rr (a6 (a0 [.str o] (a6 (a0 _ rr ho) rr) (cw _ H9)) (a6 (a0 _ rr hb) rr))) (zi M O [o] b s)) (i6 _) (ak ?_)));rw[uW];exact if_pos (cD (by rw[vI,length_singleton];lia))
noncomputable def zj (hk:List LK)(hv:LD)(o p:Str):Option Str:=match bC hk hv [.inr o,.inr p] with
 |some (.str h)=>some h
 |_=>none
def cK (K:KL)(hk:List LK)(hv:LD)(p:Str)(day:Int)(n:Nat)(o:Str):List Cl:=match zj hk hv o p with
 |some h=>if jN K h day=true then [⟨o,h,day,none,n⟩]else []
 |none=>[]
def cA (M:List Cl)(p:Str)(day:Int):LS:=kP (eB ((M.filter λc=>decide (c.p=p) && g9 c day).map (·.o)))
def px (K:KL)(M:List Cl)(hk:List LK)(hv:LD)(p:Str)(day:Int)(n:Nat):List Cl:=(cA M p day).flatMap (cK K hk hv p day n)
def lC (K:KL)(hk:List LK)(hv:LD)(p:Str)(day:Int)(n:Nat)(o:Str):(cK K hk hv p day n o).length<=1:=by
 unfold cK;split
 .split<;>simp
 .simp
theorem rS {α M:Type}(f:α->List M)(h:∀a,(f a).length<=1):∀l:List α,(l.flatMap f).length<=l.length
 |[]=>vT _
 |a::l=>by
  rw[flatMap_cons,uZ,vE];have:=h a;have:=rS f h l;lia
def zk (M:List Cl)(p:Str)(day:Int):(cA M p day).length<=M.length:=by
 unfold cA;rw[(cz _).length_eq];refine vR (mf _) ?_;rw[vI];exact vM _ _
def xc (g:dN aa)(ae:Int)(M:List Cl)(K:M.length<=60)(hk:List LK)(hv:LD)(w:∀v∈hv,∃s,v=.str s)(hx:x∈ag aa ae)(e:x.1=row a ("death" : Str) [.int d,.str p]):
  oJ [.tup aa,.int ae,.lst (M.map aT),.dt hk hv,.int x.2]=lT ((px (ag aa ae) M hk hv p d x.2).map aT):=by
 have ha:=(cI g hx).1;have y:aw [x.1,.str "person"]=sS p:=by rw[e];exact bc (i:=1) bW rr
 have z:bo [x.1]=sI d:=by rw[e];rfl
 have A:=zk M p d;have B:∀(o:Str)(l:List Cl)(O:OB),l.length<=60->iX _=some (.nx [sT aa,sI ae,sL (M.map aT),sF (.dt hk hv),sI x.2,sS p,sI d,lT ((l++cK (ag aa ae) hk hv p d x.2 o).map aT),sS o,some ((bC hk hv [.inr o,.inr p]).getD .non,false)]):=λo l O hl=>by
  have f:HG (am 3) (fV 8 (fV 5 av)) [sT aa,sI ae,sL (M.map aT),sF (.dt hk hv),sI x.2,sS p,sI d,lT (l.map aT),sS o,O]=some ((bC hk hv [.inr o,.inr p]).getD .non,false):=by
   simp[iP,sizeLine]
  cases U:bC hk hv [.inr o,.inr p] with
  |none=>
   rw[U]at f;have ei:cK (ag aa ae) hk hv p d x.2 o=[]:=by unfold cK zj;rw[U]
   rw[ei,uQ];exact f9 .non f rr (iS (bO (p:=false) (q:=false) (cj H9) H9) rr)
  |some v=>
   obtain⟨h,rfl⟩:=w v (rN U);rw[U]at f;have n:=rB aa g.rp g.le ae h d;rw[xa]at n;have r:∀ρ:DL.Env,ρ[0]? = some (sT aa)->ρ[1]? = some (sI ae)->ρ[6]? = some (sI d)->ρ[9]? = some (sS h)->fg (bx (f2 qd (am 9) (fC .non))) (bx (fA pE (fV 0 (fV 1 (fV 9 (fV 6 av)))))) ρ=some (true && jN (ag aa ae) h d):=λρ C E m t=>
    bO (cj (by simp[t])) λ_=>cj (a0 [.tup aa,.int ae,.str h,.int d] (by simp[C,E,m,t]) n)
   cases u:jN (ag aa ae) h d with
   |false=>
    have ei:cK (ag aa ae) hk hv p d x.2 o=[]:=by simp_all[cK,zj]
    rw[ei,uQ];exact f9 (.str h) f rr (iS (by rw[r _ rr rr rr rr,u];rfl) rr)
   |true=>
    have ei:cK (ag aa ae) hk hv p d x.2 o=[⟨o,h,d,none,x.2⟩]:=by simp_all[cK,zj]
    rw[ei,uW];exact f9 (.str h) f rr (l5 (by rw[r _ rr rr rr rr,u];rfl) (iT (ds:=l.map aT) (d:=aT ⟨o,h,d,none,x.2⟩) (b:=false) rr (a0 [.str o,.str h,.int d,.non,.int x.2] rr (aY _ H9)) rr (bq s9)))
 obtain⟨ρ',F,k,O,rfl⟩:=dW (tg:=f7 8) (g:=iX) (λj ρ=>∃k O:OB,ρ=[sT aa,sI ae,sL (M.map aT),sF (.dt hk hv),sI x.2,sS p,sI d,lT ((((cA M p d).take j).flatMap (cK (ag aa ae) hk hv p d x.2)).map aT),k,O]) ((cA M p d).map .str)
  [sT aa,sI ae,sL (M.map aT),sF (.dt hk hv),sI x.2,sS p,sI d,lT [],none,none] ⟨none,none,rr⟩ (by
   rintro j dd ρ hd ⟨k,O,rfl⟩;rw[vA]at hd;obtain⟨o,ho,rfl⟩:=oY hd;have hl:(((cA M p d).take j).flatMap (cK (ag aa ae) hk hv p d x.2)).length<=60:=vR (rS _ (lC _ _ _ _ _ _) _) (by rw[length_take];lia);refine⟨_,_,rr,.inl (B o _ O hl),sS o,some ((bC hk hv [.inr o,.inr p]).getD .non,false),?_⟩;rw[take_add_one,ho,Option.toList_some,List.flatMap_append,flatMap_cons,List.flatMap_nil,uQ])
 have G:f8 (f7 8) iX ((cA M p d).map .str) [sT aa,sI ae,sL (M.map aT),sF (.dt hk hv),sI x.2,sS p,sI d,lT [],none,none]=some (.nx [sT aa,sI ae,sL (M.map aT),sF (.dt hk hv),sI x.2,sS p,sI d,lT ((px (ag aa ae) M hk hv p d x.2).map aT),k,O]):=by
  rw[F];have:(cA M p d).take ((cA M p d).map D.str).length=cA M p d:=H9
  rw[this];rfl
 have H:∀ρ:DL.Env,ρ[2]? = some (sL (M.map aT))->ρ[5]? = some (sS p)->ρ[6]? = some (sI d)->dn (f1 ml (fW (dn (am 2)) 1 [5,6] (f7 0) (fg (bx (f2 jV (gR 0 1) (am 1))) (bx (fA eK (fV 0 (fV 2 av))))) (gR 0 0))) ρ=some ((cA M p d).map .str):=λρ q2 I m=>by
  have hc:=di (fi:=dn (am 2)) (nT:=1) (cap:=[5,6]) (tg:=f7 0) (c:=fg (bx (f2 jV (gR 0 1) (am 1))) (bx (fA eK (fV 0 (fV 2 av))))) (fe:=gR 0 0) (ρ:=ρ) M aT (λc=>decide (c.p=p) && g9 c d) (λc=>.str c.o) (by simp[q2]) N9 λc hc=>
   ⟨_,rr,bO (cj (aX (.str c.p) (.str p) (aX (aT c) (.int 1) (by simp[bZ]) rr (Tf c)) (by simp[bZ,I]) H9)) λ_=>cj (a0 [aT c,.int d] (by simp[bZ,m]) (rG c d)),λ_=>⟨false,aX (aT c) (.int 0) (by simp[bZ]) rr (WN c)⟩⟩
  have e2:(M.filter λc=>decide (c.p=p) && g9 c d).map (λc=>D.str c.o)=((M.filter λc=>decide (c.p=p) && g9 c d).map (·.o)).map .str:=by rw[uP];rfl
  rw[e2]at hc;show(f1 ml _ ρ).bind _=_;unfold f1;rw[hc,vJ];have J:((M.filter λc=>decide (c.p=p) && g9 c d).map (·.o)).length<64:=by rw[vI];exact lt_of_le_of_lt (vM _ _) N9
  show((dL _).bind _).bind _=_;rw[mD,vJ,if_pos J];rfl
 refine ah rr (f9 (.str p) (a0 [x.1,.str "person"] (by simp[ha]) y) rr (f9 (.int d) (a0 [x.1] (by simp[ha]) z) rr (bE (ds:=[]) q9 rr (cu (ρ':=[sT aa,sI ae,sL (M.map aT),sF (.dt hk hv),sI x.2,sS p,sI d,lT ((px (ag aa ae) M hk hv p d x.2).map aT),k,O]) ?_ (m5 rr)))));exact fG (H _ rr rr rr) G
def JL (g:dN aa)(ae:Int)(M:List Cl)(O:M.length<=60)(hk:List LK)(hv:LD)(b:∀v∈hv,∃s,v=.str s)(hx:x∈ag aa ae)(e:x.1=row a ("death" : Str) [.int d,.str p]):
  kW [.tup aa,.int ae,.lst (M.map aT),.dt hk hv,.int x.2]=lT ((ca M (M.map Cl.o) p d++px (ag aa ae) M hk hv p d x.2).map aT):=by
 have ha:=(cI g hx).1;have U:aw [x.1,.str "person"]=sS p:=by rw[e];exact bc (i:=1) bW rr
 have f:bo [x.1]=sI d:=by rw[e];rfl
 have h1:=ir (fi:=dn (am 2)) (nT:=1) (cap:=[]) (tg:=f7 0) (fe:=gR 0 0) (ρ:=[sT aa,sI ae,sL (M.map aT),sF (.dt hk hv),sI x.2,none,none]) M aT _ H9 N9 λc hc=>⟨_,rr,false,aX (aT c) (.int 0) (by simp[bZ]) rr (WN c)⟩;have e2:M.map (λc=>D.str c.o)=(M.map Cl.o).map .str:=by rw[uP];rfl
 rw[e2]at h1;have h:=eQ (M.map Cl.o) p d M;have j:(px (ag aa ae) M hk hv p d x.2).length<=60:=vR (rS _ (lC _ _ _ _ _ _) _) (vR (zk M p d) O);refine ah rr (bE h1 (cV _) (bE (a0 _ (aP rr (aP rr (aP (a0 _ (by simp[ha]) U) (aP (a0 [x.1] (by simp[ha]) f) rr)))) (zi M O _ p d)) (i6 _) (ak ?_)));refine eI rr (a0 _ rr (xc g ae M O hk hv b hx e)) ?_;rw[uW];exact if_pos (cD (by grind))
abbrev Tg:=List Cl×List LK×LD
def cF (K:KL)(st:Tg)(x:D×Nat):Tg:=
 if bH K st.1 x=true then
  if kindOf x.1 = "named" then (st.1++[⟨ao 1 x.1,ao 2 x.1,aA x.1,none,x.2⟩],st.2)
  else if kindOf x.1 = "chosen" then (ca st.1 [ao 2 x.1] (ao 1 x.1) (dz 4 x.1)++[⟨ao 2 x.1,ao 3 x.1,dz 4 x.1,none,x.2⟩],st.2)
  else if kindOf x.1 = "heir" then (st.1,dh st.2.1 [.inr (ao 2 x.1),.inr (ao 1 x.1)],cM st.2.1 st.2.2 [.inr (ao 2 x.1),.inr (ao 1 x.1)] (.str (ao 3 x.1)))
  else (ca st.1 (st.1.map Cl.o) (ao 1 x.1) (aA x.1)++px K st.1 st.2.1 st.2.2 (ao 1 x.1) (aA x.1) x.2,st.2)
 else st
def bA (K:KL):KL:=cL (λx=>bP (kA x)) (K.filter λx=>!aD x.1)
noncomputable def la (K:KL)(l:KL):Tg:=l.foldl (cF K) ([],[],[])
noncomputable def kC (c:Cl):List At:=[.s c.o,.i c.s,.i c.n]
def aE (K:KL):List Cl:=cL (λc=>bP (kC c)) (la K (bA K)).1
noncomputable def Nr:LK->Str
 |[_,.inr p]=>p
 |_=>("" : Str)
noncomputable def RW (dd:LS)(ks:List LK):Nat:=(ks.filter λk=>decide (Nr k∉dd)).length
structure Aj (K l:KL)(dd:List Str)(st:Tg):Prop where
 len:st.1.length+RW dd st.2.1<=l.length
 ded:∀q∈dd,∃y∈l,fB K q (aA y.1) y.2=true
 nod:(st.1.map λc=>(c.o,c.n)).Nodup
 num:∀c∈st.1,c.n∈l.map (·.2)
 hs:∀v∈st.2.2,∃s,v=D.str s
 hk:st.2.1.length<=l.length
def Dm (h:told ws p d r=true):aA r<=d/\∀d',aA r<=d'->told ws p d' r=true:=by
 unfold told at h;split at h
 .rw[vC]at h;obtain⟨h1,h2⟩:=h;unfold rq at h2;split at h2
  .rw[vC]at h2;refine⟨xy h2.2,λd' hd=>?_⟩;unfold told;rw[vC];refine⟨h1,?_⟩;unfold rq;rw[vC];exact⟨h2.1,ou hd⟩
  simp_all
 simp_all
theorem rT:∀(r:KL)(b:D×Nat),rQ b r∈b::r/\∀y∈b::r,bv y (rQ b r)=false
 |[],b=>by simp_all[rQ,bv]
 |x::r,b=>by
  rw[rQ,wS];by_cases h:bv x b=true
  .rw[if_pos (by rw[h])];obtain⟨h1,h2⟩:=rT r x;refine⟨mZ _ h1,λy hy=>?_⟩;rcases vP hy with rfl|hy
   .grind[mX,bv]
   .exact h2 y hy
  .rw[if_neg (by simpa using h)];obtain⟨h1,h2⟩:=rT r b;refine⟨?_,λy hy=>?_⟩
   .grind
   .grind[mX,bv]
def rV (h:fB K p d i=true):∃m∈K,told dY p d m.1=true/\m.2=i/\∀y∈K,told dY p d y.1=true->bv y m=false:=by
 unfold fB at h;split at h
 .cases h
 .rename_i b r e;obtain⟨h1,h2⟩:=rT r b;grind
theorem Bu (h1:fB K p d1 i1=true)(h2:fB K p d2 i2=true):i1=i2:=by
 obtain⟨m1,k1,M,U,a⟩:=rV h1;obtain⟨m2,k2,O,e2,q2⟩:=rV h2;have b:=Dm M;have c:=Dm O;grind[bv]
theorem zm {κ:Type}[DecidableEq κ]:∀ {ks:List κ}{vs:LD}{k:κ}{v:D},bC ks vs k=some v->k∈ks
 |k'::ks,d::ds,k,v,h=>by
  unfold bC at h;split at h
  .simp_all
  .exact mZ _ (zm h)
 |[],_,_,_,h=>by simp[bC]at h
 |_::_,[],_,_,h=>by simp[bC]at h
theorem rW (p:Str)(dd:LS)(hp:p∉dd):∀ks:List LK,RW dd ks=RW (p::dd) ks+(ks.filter λk=>decide (Nr k=p)).length
 |[]=>rr
 |k::ks=>by
  have M:=rW p dd hp ks;grind[RW]
theorem ko (M:LS)(p:Str)(day:Int):∀O:List Cl,((ca O M p day).map λc=>(c.o,c.n)).Sublist (O.map λc=>(c.o,c.n))
 |[]=>List.Sublist.slnil
 |c::O=>by
  have U:=ko M p day O;unfold ca at U |-;rw[flatMap_cons,uW];have:((eP M p day c).map λc=>(c.o,c.n))=[(c.o,c.n)]\/((eP M p day c).map λc=>(c.o,c.n))=[]:=by
   unfold eP;split
   .exact .inl rr
   .split
    .exact .inl rr
    .exact .inr rr
  rcases this with h|h
  .rw[h];exact U.cons₂ _
  .rw[h];exact U.cons _
def kq (h:c∈ca O U p day):∃M∈O,M.o=c.o/\M.n=c.n:=by
 have:=(ko _ p _ O).subset (uS ⟨c,h,rr⟩);simp_all
theorem i7:∀(ss M:LS),M.Nodup->(ss.foldl gQ M).Nodup
 |[],_,h=>h
 |s::ss,M,h=>i7 ss _ (qm h s)
def rX (M:List Cl)(p:Str)(day:Int):(cA M p day).Nodup:=(cz _).nodup_iff.mpr (i7 _ [] nodup_nil)
theorem zn (K:KL)(hk:List LK)(hv:LD)(p:Str)(day:Int)(n:Nat):∀os:LS,((os.flatMap (cK K hk hv p day n)).map λc=>(c.o,c.n)).Sublist (os.map λo=>(o,n))
 |[]=>List.Sublist.slnil
 |o::os=>by
  have M:=zn K hk hv p day n os;rw[flatMap_cons,uW];have:((cK K hk hv p day n o).map λc=>(c.o,c.n))=[(o,n)]\/((cK K hk hv p day n o).map λc=>(c.o,c.n))=[]:=by
   unfold cK;split
   .split
    .exact .inl rr
    .exact .inr rr
   .exact .inr rr
  rcases this with h|h
  .rw[h];exact M.cons₂ _
  .rw[h];exact M.cons _
theorem uB {α:Type}[DecidableEq α]:∀(l m:List α),l.Nodup->(∀x∈l,x∈m)->l.length<=m.length
 |[],_,_,_=>uN _
 |x::l,m,h,s=>by
  rw[nodup_cons]at h;have:=uB l _ h.2 λy hy=>(List.mem_erase_of_ne (b:=x) (λe=>h.1 (by rw[<-e];exact hy))).mpr (s y (mZ _ hy));grind
theorem uC {α M:Type}(f:α->List M)(q:α->Bool)(h:∀a,(f a).length<=1/\(q a=false->f a=[])):∀l:List α,(l.flatMap f).length<=(l.filter q).length
 |[]=>vT _
 |a::l=>by
  have O:=uC f q h l;grind
def Nt (K:KL)(M:List Cl)(hk:List LK)(hv:LD)(p:Str)(day:Int)(n:Nat):(px K M hk hv p day n).length<=(hk.filter λk=>decide (Nr k=p)).length:=by
 refine vR (uC _ (λo=>(bC hk hv [.inr o,.inr p]).isSome) (λo=>⟨lC _ _ _ _ _ _ _,λh=>?_⟩) _) ?_
 .simp_all[cK,zj]
 .have O:(((cA M p day).filter λo=>(bC hk hv [.inr o,.inr p]).isSome).map λo=>([.inr o,.inr p]:LK)).Nodup:=List.Pairwise.map _ (λa b U e=>U (by injection e with e _;injection e)) ((rX M p _).filter _);have:=uB _ (hk.filter λk=>decide (Nr k=p)) O λk hm=>by
   obtain⟨o,ho,rfl⟩:=vO hm;obtain⟨v,hv⟩:=uU (vN ho).2;exact mem_filter.mpr ⟨zm hv,ou rr⟩
  simp_all
def Aj.step {K l:KL}{dd:LS}{st:Tg}(h:Aj K l dd st){x:D×Nat}(hx:x.2∉l.map (·.2)):∃i,Aj K (l++[x]) i (cF K st x):=by
 have g:∀ {n:Nat},n∈l.map (·.2)->n∈(l++[x]).map (·.2):=λh=>by grind
 have j:x.2∈(l++[x]).map (·.2):=H9
 have m:(l++[x]).length=l.length+1:=H9
 have O:∀q∈dd,∃y∈l++[x],fB K q (aA y.1) y.2=true:=λq hq=>by
  obtain⟨y,h1,h2⟩:=h.ded q hq;exact⟨y,mem_append_left _ h1,h2⟩
 have p:Aj K (l++[x]) dd st:=⟨by have:=h.len;lia,O,h.nod,λc hc=>g (h.num c hc),h.hs,by have:=h.hk;lia⟩;have z:=h.len;unfold cF;split
 .rename_i M;split
  .refine⟨dd,s9,O,?_,λc hc=>?_,h.hs,by rw[m];exact le_succ_of_le h.hk⟩
   .rw[uW,nodup_append];refine⟨h.nod,H9,λa ha b hb e=>?_⟩;obtain⟨c,hc,rfl⟩:=vO ha;simp at hb;subst hb;injection e with _ e2;exact hx (e2 ▸ h.num c hc)
   .rcases mem_append.mp hc with hc|hc
    .exact g (h.num c hc)
    .rw[uT hc];exact j
  .split
   .have hl:=eQ [ao 2 x.1] (ao 1 x.1) (dz 4 x.1) st.1;refine⟨dd,s9,O,?_,λc hc=>?_,h.hs,by rw[m];exact le_succ_of_le h.hk⟩
    .rw[uW,nodup_append];refine⟨h.nod.sublist (ko _ _ _ _),H9,λa ha b hb e=>?_⟩;obtain⟨c,hc,rfl⟩:=vO ha;simp at hb;subst hb;injection e with _ e2;obtain⟨U,h1,_,h3⟩:=kq hc;exact hx (e2 ▸ h3 ▸ h.num U h1)
    .rcases mem_append.mp hc with hc|hc
     .obtain⟨U,h1,_,h3⟩:=kq hc;rw[<-h3];exact g (h.num U h1)
     .rw[uT hc];exact j
   .split
    .have hp:∀k:LK,RW dd (dh st.2.1 k)<=RW dd st.2.1+1/\(dh st.2.1 k).length<=st.2.1.length+1:=λk=>by
      grind[dh,RW]
     refine⟨dd,?_,O,p.nod,p.num,λv hv=>?_,?_⟩
     .grind
     .rcases u8 hv with hv|hv
      .exact⟨_,hv⟩
      .exact h.hs v hv
     .have:=(hp [.inr (ao 2 x.1),.inr (ao 1 x.1)]).2;have:=h.hk;lia
    .rename_i n1 n2 n3;have hd:kindOf x.1 = "death":=by
      simp_all[bH,rR]
     have hf:fB K (ao 1 x.1) (aA x.1) x.2=true:=by unfold bH at M;rwa [if_pos hd]at M
     have s:ao 1 x.1∉dd:=λhm=>by
      obtain⟨y,h1,h2⟩:=h.ded _ hm;grind[Bu]
     have hl:=eQ (st.1.map Cl.o) (ao 1 x.1) (aA x.1) st.1;have t:=Nt K st.1 st.2.1 st.2.2 (ao 1 x.1) (aA x.1) x.2;have u:=rW (ao 1 x.1) dd s st.2.1;have d:=zn K st.2.1 st.2.2 (ao 1 x.1) (aA x.1) x.2 (cA st.1 (ao 1 x.1) (aA x.1));have f:∀c∈px K st.1 st.2.1 st.2.2 (ao 1 x.1) (aA x.1) x.2,c.o∈cA st.1 (ao 1 x.1) (aA x.1)/\c.n=x.2:=λc hc=>by
      have:=d.subset (uS ⟨c,hc,rr⟩);simp_all<;>lia
     refine⟨ao 1 x.1::dd,?_,λq hq=>?_,?_,λc hc=>?_,h.hs,by rw[m];exact le_succ_of_le h.hk⟩
     .grind
     .rcases vP hq with rfl|hq
      .exact⟨x,H9,hf⟩
      .exact O q hq
     .rw[uW,nodup_append];refine⟨h.nod.sublist (ko _ _ _ _),List.Nodup.sublist d (List.Pairwise.map _ (λa b r e=>r (by injection e)) (rX _ _ _)),λa ha b hb e=>?_⟩;obtain⟨c,hc,rfl⟩:=vO ha;obtain⟨c2,w,rfl⟩:=vO hb;injection e with _ e2;obtain⟨U,h1,_,h3⟩:=kq hc;exact hx ((f c2 w).2 ▸ e2 ▸ h3 ▸ h.num U h1)
     .rcases mem_append.mp hc with hc|hc
      .obtain⟨U,h1,_,h3⟩:=kq hc;rw[<-h3];exact g (h.num U h1)
      .rw[(f c hc).2];exact j
 .exact⟨dd,p⟩
def Nu (e:ρ[i]? = some (some (.dt ks vs,true)))(ev:O ρ=some (d,b))(ek:U ρ=some kd)(hk:iP kd=some M)(hf:aO d=true)(h1:ks.length<=1000)(h2:kd.length<=1000):uq i U O ρ=some (.nx (ρ.set i (some (.dt (dh ks M) (cM ks vs M d),true)))):=by
 unfold uq;rw[e];dsimp;rw[ev,vJ,ek,vJ,hk,vJ,if_pos ⟨hf,bq N9,cD N9⟩]
def Ye (a b:Cl):(aU (kC a) (kC b)).isSome=true:=by
 unfold kC;rw[aU];split
 .rw[aU];split
  .rw[aU];split
   .rfl
   .rfl
  .rfl
 .rfl
def Dn (cs:List Cl):cy (cs.map kC)=true:=by
 simp_all[cy,Ye]
theorem nZ {α M:Type}(f:α->M):∀ {l:List α},(l.map f).Nodup->∀ {a b:α},a∈l->b∈l->f a=f b->a=b
 |[],_,_,_,ha,_,_=>by cases ha
 |c::l,h,a,b,ha,hb,e=>by
  rw[uY,nodup_cons]at h;rcases vP ha with O|ha1
  .grind
  .rcases vP hb with U|hb1
   .simp_all
   .exact nZ f h.2 ha1 hb1 e
def RX {cs:List Cl}{a b:Cl}(ha:a∈cs)(hb:b∈cs)(e:bP (kC a)=bP (kC b)):(a.o,a.n)=(b.o,b.n):=by
 have h:=kg (Dn cs) (uS ⟨a,ha,rr⟩) (uS ⟨b,hb,rr⟩) e;grind[kC]
def Nv (g:dN aa)(ae:Int)(h:Aj (ag aa ae) l dd st)(hj:l.length<=60)(hx:x∈ag aa ae)(f:aD x.1=false)(m:OB):
  ∃n,(nO [sT aa,sI ae,lT (st.1.map aT),some (.dt st.2.1 st.2.2,true),sI x.2,m]=some (.nx [sT aa,sI ae,lT ((cF (ag aa ae) st x).1.map aT),some (.dt (cF (ag aa ae) st x).2.1 (cF (ag aa ae) st x).2.2,true),sI x.2,n])
   \/ nO [sT aa,sI ae,lT (st.1.map aT),some (.dt st.2.1 st.2.2,true),sI x.2,m]=some (.ct [sT aa,sI ae,lT ((cF (ag aa ae) st x).1.map aT),some (.dt (cF (ag aa ae) st x).2.1 (cF (ag aa ae) st x).2.2,true),sI x.2,n])):=by
 obtain⟨ha,c⟩:=cI g hx;have j:st.1.length<=60:=by have:=h.len;lia
 have hf:aO x.1=true:=c.rp.flat;have q:=EU g ae st.1 j hx f;have O:jh (bx (fA rb (fV 0 (fV 1 (fV 2 (fV 4 av)))))) [sT aa,sI ae,lT (st.1.map aT),some (.dt st.2.1 st.2.2,true),sI x.2,some (x.1,false)]=some (!bH (ag aa ae) st.1 x):=
  ba (cj (a0 [.tup aa,.int ae,.lst (st.1.map aT),.int x.2] H9 q))
 have hw:fA bj (fV 5 av) [sT aa,sI ae,lT (st.1.map aT),some (.dt st.2.1 st.2.2,true),sI x.2,some (x.1,false)]=sS (kindOf x.1):=a0 [x.1] rr (gU c);refine⟨some (x.1,false),?_⟩;cases hc:bH (ag aa ae) st.1 x with
 |false=>
  rw[hc]at O;have es:cF (ag aa ae) st x=st:=by unfold cF;rw[hc];rfl
  rw[es];exact .inr (f9 x.1 (by simp[ha]) hf (Yd (l5 O rr)))
 |true=>
  rw[hc]at O;left;refine f9 x.1 (by simp[ha]) hf (cu (iS O rr) ?_);by_cases hn:kindOf x.1 = "named"
  .have es:cF (ag aa ae) st x=(st.1++[⟨ao 1 x.1,ao 2 x.1,aA x.1,none,x.2⟩],st.2):=by unfold cF;rw[hc,if_pos rr,if_pos hn]
   rw[es];refine l5 (bL (bb:=false) hw (ou hn)) ?_;have U:aw [x.1,.str "office"]=sS (ao 1 x.1)/\aw [x.1,.str "person"]=sS (ao 2 x.1):=by
    obtain⟨a,k,aj,e,d⟩:=c;rw[e]at hn |-;replace hn:k = "named":=hn;cases d with
    |named d o p=>exact⟨bc (i:=1) bW rr,bc (i:=2) bW rr⟩
    |root=>exact cN hn
    |chosen=>exact cN hn
    |heir=>exact cN hn
    |three _ hk=>rcases hk with rfl|rfl|rfl<;>exact cN hn
    |other _ hk=>rcases hk with rfl|rfl|rfl|rfl|rfl<;>exact cN hn
   have r:bo [x.1]=sI (aA x.1):=by simp_all[rF,tF]
   have e2:f2 gP (am 2) (fA dJ (ai (fA jG (fV 5 (ai (fA bo (fV 5 av)) (fV 4 av)))) av)) [sT aa,sI ae,lT (st.1.map aT),some (.dt st.2.1 st.2.2,true),sI x.2,some (x.1,false)]=lT (st.1.map aT++[aT ⟨ao 1 x.1,ao 2 x.1,aA x.1,none,x.2⟩]):=by
    refine eI (x:=.lst (st.1.map aT)) (y:=.lst [aT ⟨ao 1 x.1,ao 2 x.1,aA x.1,none,x.2⟩]) (b1:=false) (b2:=true) rr ?_ (if_pos (cD (by rw[vI,length_singleton];lia)));exact a0 [aT ⟨ao 1 x.1,ao 2 x.1,aA x.1,none,x.2⟩] (a6 (a0 [x.1,.int (aA x.1),.int x.2] (aP rr (aP (a0 [x.1] rr r) rr)) (V9 U.1 U.2 _ _)) rr) (cw _ H9)
   have:=pD (i:=2) e2 (by have hq:=i6 (st.1++[(⟨ao 1 x.1,ao 2 x.1,aA x.1,none,x.2⟩:Cl)]);rwa [uW]at hq);rw[uW];exact this
  .refine iS (bL (bb:=false) hw (xx hn)) ?_;by_cases M:kindOf x.1 = "chosen"
   .have es:cF (ag aa ae) st x=(ca st.1 [ao 2 x.1] (ao 1 x.1) (dz 4 x.1)++[⟨ao 2 x.1,ao 3 x.1,dz 4 x.1,none,x.2⟩],st.2):=by simp_all[cF]
    rw[es];refine l5 (bL (bb:=false) hw (ou M)) (pD (i:=2) (a0 [.lst (st.1.map aT),x.1,.int x.2] rr ?_) (i6 _));obtain⟨a,k,aj,e,d⟩:=c;rw[e]at M |-;replace M:k = "chosen":=M;cases d with
    |chosen d b o p s=>exact EV st.1 j x.2
    |root=>exact cN M
    |named=>exact cN M
    |heir=>exact cN M
    |three _ hk=>rcases hk with rfl|rfl|rfl<;>exact cN M
    |other _ hk=>rcases hk with rfl|rfl|rfl|rfl|rfl<;>exact cN M
   .refine iS (bL (bb:=false) hw (xx M)) ?_;by_cases hh:kindOf x.1 = "heir"
    .have es:cF (ag aa ae) st x=(st.1,dh st.2.1 [.inr (ao 2 x.1),.inr (ao 1 x.1)],cM st.2.1 st.2.2 [.inr (ao 2 x.1),.inr (ao 1 x.1)] (.str (ao 3 x.1))):=by simp_all[cF]
     rw[es];have U:aw [x.1,.str "office"]=sS (ao 2 x.1)/\aw [x.1,.str "by"]=sS (ao 1 x.1)/\aw [x.1,.str "person"]=sS (ao 3 x.1):=by
      obtain⟨a,k,aj,e,d⟩:=c;rw[e]at hh |-;replace hh:k = "heir":=hh;cases d with
      |heir d b o p=>exact⟨bc (i:=2) bW rr,bc (i:=1) bW rr,bc (i:=3) bW rr⟩
      |root=>exact cN hh
      |named=>exact cN hh
      |chosen=>exact cN hh
      |three _ hk=>rcases hk with rfl|rfl|rfl<;>exact cN hh
      |other _ hk=>rcases hk with rfl|rfl|rfl|rfl|rfl<;>exact cN hh
     exact l5 (bL (bb:=false) hw (ou hh)) (Nu (ks:=st.2.1) (vs:=st.2.2) (kd:=[.str (ao 2 x.1),.str (ao 1 x.1)]) (b:=false) rr (a0 [x.1,.str "person"] rr U.2.2) (a6 (a0 [x.1,.str "office"] rr U.1) (a6 (a0 [x.1,.str "by"] rr U.2.1) rr)) rr rr (by have:=h.hk;lia) H9)
    .refine iS (bL (bb:=false) hw (xx hh)) ?_;have es:cF (ag aa ae) st x=(ca st.1 (st.1.map Cl.o) (ao 1 x.1) (aA x.1)++px (ag aa ae) st.1 st.2.1 st.2.2 (ao 1 x.1) (aA x.1) x.2,st.2):=by simp_all[cF]
     rw[es];have hd:kindOf x.1 = "death":=by
      unfold bH at hc;by_cases hd:kindOf x.1 = "death"
      .exact hd
      .rw[if_neg hd,if_neg (by simp[rR,hn,M,hh])]at hc;cases hc
     refine pD (i:=2) (a0 [.tup aa,.int ae,.lst (st.1.map aT),.dt st.2.1 st.2.2,.int x.2] H9 ?_) (i6 _);obtain⟨a,k,aj,e,d⟩:=c;have hk:k = "death":=by rw[e]at hd;exact hd
     subst hk;obtain⟨dd,p,rfl⟩:=d.deed.three I9;have:=JL g ae st.1 j st.2.1 st.2.2 h.hs hx e;rw[this,e];rfl
theorem Dp (K:KL):∀(l M:KL)(st:Tg)(dd:LS),Aj K M dd st->((M++l).map (·.2)).Nodup->∃O,Aj K (M++l) O (l.foldl (cF K) st)
 |[],M,st,dd,h,_=>⟨dd,by rw[uQ];exact h⟩
 |x::l,M,st,dd,h,hn=>by
  have hx:x.2∉M.map (·.2):=λhm=>by
   grind
  obtain⟨O,h'⟩:=h.step hx;have e:M++x::l=(M++[x])++l:=H9
  rw[e]at hn |-;exact Dp K l _ _ _ h' hn
def Dq (K l:KL)(h:(l.map (·.2)).Nodup):∃dd,Aj K l dd (la K l):=by
 have:=Dp K l [] ([],[],[]) [] ⟨uN _,H9,H9,H9,H9,uN _⟩ h;exact this
def kx (h:(K.map (·.2)).Nodup):((bA K).map (·.2)).Nodup:=((a9 _ _).map _).nodup_iff.mpr (List.Nodup.sublist (List.Sublist.map _ filter_sublist) h)
def ky {aa:LD}(g:dN aa)(ae:Int)(r:(bA (ag aa ae)).length<=60):m8 [.tup aa,.int ae]=lT ((aE (ag aa ae)).map aT)/\(aE (ag aa ae)).length<=60:=by
 have m:eJ [.tup aa,.int ae]=lT ((bA (ag aa ae)).map λx=>.int x.2):=oR g ae;generalize i:ag aa ae=K at r m |-;have t:∀x∈bA K,x∈K/\aD x.1=false:=λx hx=>by
  obtain⟨h1,h2⟩:=vN ((a9 _ _).mem_iff.mp hx);simp_all
 have q:((bA K).map (·.2)).Nodup:=kx (by grind[cc]);obtain⟨ρ',e,l,k,rfl⟩:=dW (tg:=f7 4) (g:=nO) (λj ρ=>∃l k:OB,ρ=[sT aa,sI ae,lT ((la K ((bA K).take j)).1.map aT),some (.dt (la K ((bA K).take j)).2.1 (la K ((bA K).take j)).2.2,true),l,k]) ((bA K).map λx=>.int x.2)
  _ ⟨none,none,rr⟩ (by
   rintro j d ρ hd ⟨l,k,rfl⟩;rw[vA]at hd;obtain⟨x,hx,rfl⟩:=oY hd;have F:(bA K).take (j+1)=(bA K).take j++[x]:=by rw[take_add_one,hx];rfl
   have u:la K ((bA K).take (j+1))=cF K (la K ((bA K).take j)) x:=by simp_all[la]
   obtain⟨v,w⟩:=t x (vL hx);obtain⟨dd,h⟩:=Dq K ((bA K).take j) (List.Nodup.sublist (List.Sublist.map _ (take_sublist _ _)) q);rw[<-i]at h;have M:=Nv g ae h (by rw[i,length_take];lia) (x:=x) (by rw[i];exact v) w k;rw[i]at M;obtain⟨z,M⟩:=M;exact⟨_,_,rr,M,sI x.2,z,by rw[u]⟩)
 have A:(bA K).take ((bA K).map λx=>D.int x.2).length=bA K:=H9
 rw[A]at e;obtain⟨dd,O⟩:=Dq K (bA K) q;generalize B:(la K (bA K))=st at e O;have C:st.1.length<=60:=by have:=O.len;lia
 have f:aE K=cL (λc=>bP (kC c)) st.1:=by unfold aE;rw[B]
 have hm:∀ρ:DL.Env,j4 (E6 jF ρ) (st.1.map aT)=some (st.1.map λc=>.tup [.str c.o,.int c.s,.int c.n]):=λρ=>gz st.1 λc _=>by
  rfl
 have hk:du (st.1.map λc=>D.tup [.str c.o,.int c.s,.int c.n])=some (st.1.map kC):=fO st.1 λc _=>rr;have U:(st.1.map kC).length<64/\cy (st.1.map kC)=true/\cC (st.1.map kC)=true/\((st.1.map kC).map bP).Nodup:=by
  refine⟨by rw[vI];lia,Dn _,?_,?_⟩
  .simp_all[cC,kC]
  .rw[uP];have h1:st.1.Pairwise λa b=>(a.o,a.n)≠(b.o,b.n):=pairwise_map.mp O.nod;have h2:st.1.Pairwise λa b=>bP (kC a)≠bP (kC b):=by
    refine List.Pairwise.imp_of_mem ?_ h1;intro a b ha hb E e;exact E (RX ha hb e)
   exact pairwise_map.mpr h2
 have hz:(st.1.map kC).zip (st.1.map aT)=st.1.map λc=>(kC c,aT c):=by rw[zip_map']
 have key:((aE K).map λc=>(kC c,aT c))=cL (λp:List At×D=>bP p.1) (st.1.map λc=>(kC c,aT c)):=by
  rw[f];refine dS _ (λx hx y hy e=>?_) ((a9 _ _).map _) ?_
  .grind[nZ]
  .exact pairwise_map.mpr (bR _ _)
 refine⟨ah rr (bE (ds:=[]) q9 rr (cu rr (cu (fG (ds:=(bA K).map λx=>.int x.2) ?_ e) (ak ?_)))),by rw[f,(a9 _ _).length_eq];exact C⟩
 .show(fA eJ (fV 0 (fV 1 av)) _).bind _=_;rw[a0 [.tup aa,.int ae] rr m];rfl
 .unfold wE;show((some (D.lst (st.1.map aT),false)).bind _)=_;simp only[vJ];rw[hm];simp only[vJ];rw[hk];simp only[vJ];rw[if_pos U];unfold ie;rw[hz,<-key,uP];rfl
end Lw
namespace Lw
open PySem PySem.Spec DL L2
def iD (x:Int×OI):D:=.tup [.int x.1,uD x.2]
def jO (x:Int×OI):aO (iD x)=true:=by simp[iD,Dj]
def uE (x:Int×OI):aQ 5 (iD x)=true:=by obtain⟨s,u⟩:=x;cases u<;>simp[iD,uD]
def RY {zs:LS}{i:Int}(h1 : -(zs.length:Int)<=i)(h2:i<zs.length):∃z∈zs,eA (.lst (zs.map .str)) (.int i)=sS z:=by
 obtain⟨j,hj,hl⟩:∃j,Gb (zs.map D.str).length i=some j/\j<zs.length:=by
  unfold Gb;rw[vI];by_cases h0:0<=i
  .simp_all
  .rw[if_neg h0,if_pos N9];exact⟨_,rr,N9⟩
 simp_all[mQ]
def MR:LN:=[7,255,3,15]
def MS:LN:=[1,2,3,4,5,7,128,255]
inductive Dd:Str->List D->Prop
 |root (o r:Str) (m:Nat) (hm:m∈MR) (f:Int):Dd ("root" : Str) [.str o,.int m,.int f,.str r]
 |named (d:Int) (o p:Str):Dd ("named" : Str) [.int d,.str o,.str p]
 |chosen (d:Int) (b o p:Str) (s:Int):Dd ("chosen" : Str) [.int d,.str b,.str o,.str p,.int s]
 |heir (d:Int) (b o p:Str):Dd ("heir" : Str) [.int d,.str b,.str o,.str p]
 |three (k:Str) (hk:k = "death" \/ k = "lost" \/ k = "found") (d:Int) (p:Str):Dd k [.int d,.str p]
 |leave (d:Int) (b p:Str) (m:Nat) (hm:m∈MS) (x:Int×Option Int) (f:Int):Dd ("leave" : Str) [.int d,.str b,.str p,.int m,iD x,.int f]
 |paper (k:Str) (hk:k = "paper" \/ k = "like") (d:Int) (b:Str) (m:Nat) (hm:m∈MS) (x:Int×Option Int) (r:List D) (hf:aZ r=true) (hp:r.all (aQ 5)=true):Dd k (.int d::.str b::.int m::iD x::r)
 |copy (k:Str) (hk:k = "copy" \/ k = "call") (d:Int) (b:Str) (n:Nat):Dd k [.int d,.str b,.int n]
def Dd.cd (h:Dd k r):Cd k r:=by
 cases h with
 |root o r m hm f=>exact .root _ _ _ _
 |named d o p=>exact .named _ _ _
 |chosen d b o p s=>exact .chosen _ _ _ _ _
 |heir d b o p=>exact .heir _ _ _ _
 |three k hk d p=>exact .three _ hk _ _
 |leave d b p m hm x f=>exact .other _ (.inl rr) _ _ _ (by simp[jO]) (by simp_all[uE])
 |paper k hk d b m hm x r hf hp=>exact .other _ (hk.elim (λh=>.inr (.inl h)) λh=>.inr (.inr (.inl h))) _ _ _ (by simp[hf,jO]) (by simp_all[uE])
 |copy k hk d b n=>exact .other _ (hk.elim (λh=>.inr (.inr (.inr (.inl h)))) λh=>.inr (.inr (.inr (.inr h)))) _ _ _ rr H9
def Dd.flat (h:Dd k r):aZ r=true:=h.cd.deed.flat
def bB (r:D):Prop:=∃h k aj,r=row h k aj/\Dd k aj
def bB.c (g:bB r):wU r:=by obtain⟨h,k,aj,e,d⟩:=g;exact⟨h,k,aj,e,d.cd⟩
def bB.flat (g:bB r):aO r=true:=g.c.rp.flat
noncomputable def mF (aa:LD):LS:=(aa.filter aD).map (ao 0)
def oe (aa:LD)(r:D):mF (aa++[r])=mF aa++if aD r=true then [ao 0 r]else []:=by
 grind[mF]
def oh (a b:Nat):iz [.int a,.int b]=sO (decide (a &&& b=b)):=by
 have:Builtin.bitAnd (a:Int) (b:Int)=((a &&& b:Nat):Int):=by simp[Builtin.bitAnd]
 simp[iz,this];lia
def gL (r:D):Nat:=(if kindOf r = "root" then dz 1 r else if kindOf r = "leave" then dz 3 r else dz 2 r).toNat
def mG (a:Int)(k:Str)(aj:LD):kindOf (row a k aj)=k:=rfl
noncomputable def cY:LS:=[("leave" : Str),"paper","like"]
def lD (g:bB r)(h:aD r=true):∃a o rl,∃m:Nat,∃f:Int,r=row a ("root" : Str) [.str o,.int m,.int f,.str rl]/\m∈MR/\gL r=m:=by
 obtain⟨a,k,aj,rfl,d⟩:=g;have hk:k = "root":=xy h;clear h;cases d with
 |root o rl m hm f=>exact⟨a,o,rl,m,f,rr,hm,Y9⟩
 |named=>exact cN hk
 |chosen=>exact cN hk
 |heir=>exact cN hk
 |three k M=>rcases M with rfl|rfl|rfl<;>exact cN hk
 |leave=>exact cN hk
 |paper k M=>rcases M with rfl|rfl<;>exact cN hk
 |copy k M=>rcases M with rfl|rfl<;>exact cN hk
def Dr (g:bB r)(h:aD r=true):aw [r,.str "matters"]=sI (gL r):=by
 obtain⟨a,o,rl,m,f,rfl,_,e⟩:=lD g h;rfl
def JM {a:Int}{k:Str}{aj:LD}(d:Dd k aj)(h:k∈cY):gL (row a k aj)∈MS/\(∃i:Nat,ly bV (.str k) (.str "matters")=sI i/\aj[i]? = some (.int (gL (row a k aj))))/\(D.str k::aj).getD (3+if k = "leave" then 1 else 0) .non=.int (gL (row a k aj))/\(3+if k = "leave" then 1 else 0)<(D.str k::aj).length:=by
 cases d with
 |leave d b p m hm x f=>
  have e:gL (row a ("leave" : Str) [.int d,.str b,.str p,.int m,iD x,.int f])=m:=Y9
  refine⟨hm,⟨3,bW,rr⟩,?_,?_⟩
  .rfl
  simp
 |paper k hk d b m hm x r hf hp=>
  have hl:k ≠ "leave":=by rcases hk with rfl|rfl<;>decide +kernel
  have O:k ≠ "root":=by rcases hk with rfl|rfl<;>decide +kernel
  have e:gL (row a k (.int d::.str b::.int m::iD x::r))=m:=by unfold gL;rw[mG,if_neg O,if_neg hl];rfl
  rw[e];refine⟨hm,⟨2,by rcases hk with rfl|rfl<;>exact bW,rr⟩,?_,?_⟩
  .rw[if_neg hl];rfl
  simp_all
 |root=>exact cN h
 |named=>exact cN h
 |chosen=>exact cN h
 |heir=>exact cN h
 |three k M=>rcases M with rfl|rfl|rfl<;>exact cN h
 |copy k M=>rcases M with rfl|rfl<;>exact cN h
def xf (g:bB r)(h:kindOf r∈cY):aw [r,.str "matters"]=sI (gL r):=by
 obtain⟨a,k,aj,rfl,d⟩:=g;obtain⟨_,⟨i,h1,h2⟩,_⟩:=JM d h;exact bc h1 h2
noncomputable def aS:LS:=[("leave" : Str),"paper","like","copy"]
def gD (h:k∈aS\/k = "call"):c8 k=true:=by
 grind[rC,aS,ze]
def Ds {k:Str}{aj:LD}(d:Dd k aj)(h:c8 k=true):∃(dd:Int)(b:Str)(r:LD),aj=.int dd::.str b::r:=d.cd.deed.slg h
def Dt (g:bB r)(h:c8 (kindOf r)=true):aw [r,.str "by"]=sS (cP r):=by
 obtain⟨a,k,aj,rfl,d⟩:=g;obtain⟨dd,b,q,rfl⟩:=Ds d h;exact bc (J9 h) rr
noncomputable def bd (K:KL):LD:=(K.filter λx=>aD x.1).map (·.1)
theorem rY:∀(l:List (cZ×D))(a:LK×LD),(a.1++l.map (·.1)).Nodup->l.foldl qF a=(a.1++l.map (·.1),a.2++l.map (·.2))
 |[],a,_=>by simp
 |p::l,a,h=>by
  have hn:p.1∉a.1:=by
   grind
  have e:qF a p=(a.1++[p.1],a.2++[p.2]):=by simp_all[qF,dh,cM]
  rw[foldl_cons,e,rY l _ (by rw[append_assoc];exact h)];simp
theorem Du:∀ {vs:LD}{v:D},(vs.map (ao 0)).Nodup->v∈vs->bC (vs.map λv=>(.inr (ao 0 v):cZ)) vs (.inr (ao 0 v))=some v
 |w::vs,v,h,hv=>by
  rw[uY,nodup_cons]at h;rw[uY,bC];rcases vP hv with rfl|hv
  .rw[if_pos rr]
  .rw[if_neg λz=>h.1 (by grind)];exact Du h.2 hv
section
variable {K:KL}(hn:((bd K).map (ao 0)).Nodup)
include hn
theorem lF:bD (kZ K)=((bd K).map λv=>(.inr (ao 0 v):cZ),bd K):=by
 have e:kZ K=(bd K).map λv=>((.inr (ao 0 v):cZ),v):=by unfold kZ bd;rw[uP];rfl
 have M:((bd K).map λv=>(.inr (ao 0 v):cZ)).Nodup:=by
  refine pairwise_map.mpr ((pairwise_map.mp hn).imp λh z=>h (Sum.inr.inj z))
 rw[e];unfold bD;rw[rY _ _ (by rw[uP];exact M),uP,uP];congr 1;exact map_id _
theorem EW (hv:v∈bd K):rO K (ao 0 v)=some v:=by
 simp_all[rO,lF,Du]
end
noncomputable def Nw (j:Nat):D->Int×OI
 |.tup [_,.tup (_::aj)]=>match aj[j]? with
  |some (.tup [.int s,.int u])=>(s,some u)
  |some (.tup [.int s,.non])=>(s,none)
  |_=>(0,none)
 |_=>(0,none)
def xg {h:Int}{k:Str}{aj:LD}{j:Nat}{x:Int×OI}(e:aj[j]? = some (iD x)):Nw j (row h k aj)=x:=by
 unfold Nw row;dsimp only;rw[e];obtain⟨s,u⟩:=x;cases u<;>rfl
def fy (r:D):Int×OI:=if kindOf r = "leave" then Nw 4 r else Nw 3 r
def lb (r:D):Int:=if kindOf r = "root" then dz 2 r else dz 5 r
def mH (r:D):Bool:=decide (kindOf r = "leave")
def oZ {r:D}(g:bB r)(h:kindOf r = "leave"):∃a d b p,∃m:Nat,∃x f,r=row a ("leave" : Str) [.int d,.str b,.str p,.int m,iD x,.int f]/\m∈MS/\gL r=m/\fy r=x/\lb r=f:=by
 obtain⟨a,k,aj,rfl,d⟩:=g;have hk:k = "leave":=h;clear h;cases d with
 |leave d b p m hm x f=>exact⟨a,d,b,p,m,x,f,rr,hm,Y9,by unfold fy;rw[mG,if_pos rr];exact xg rr,Y9⟩
 |root=>exact cN hk
 |named=>exact cN hk
 |chosen=>exact cN hk
 |heir=>exact cN hk
 |three k M=>rcases M with rfl|rfl|rfl<;>exact cN hk
 |paper k M=>rcases M with rfl|rfl<;>exact cN hk
 |copy k M=>rcases M with rfl|rfl<;>exact cN hk
def Nx {a:Int}{k:Str}{aj:LD}(d:Dd k aj)(h:k∈cY):(∃i:Nat,ly bV (.str k) (.str "stretch")=sI i/\aj[i]? = some (iD (fy (row a k aj))))/\(D.str k::aj).getD (4+if k = "leave" then 1 else 0) .non=iD (fy (row a k aj))/\(4+if k = "leave" then 1 else 0)<(D.str k::aj).length:=by
 cases d with
 |leave d b p m hm x f=>
  have e:fy (row a ("leave" : Str) [.int d,.str b,.str p,.int m,iD x,.int f])=x:=by unfold fy;rw[mG,if_pos rr];exact xg rr
  rw[e];exact⟨⟨4,bW,rr⟩,rr,H9⟩
 |paper k hk d b m hm x r hf hp=>
  have hl:k ≠ "leave":=by rcases hk with rfl|rfl<;>decide +kernel
  have e:fy (row a k (.int d::.str b::.int m::iD x::r))=x:=by unfold fy;rw[mG,if_neg hl];exact xg rr
  rw[e,if_neg hl];exact⟨⟨3,by rcases hk with rfl|rfl<;>exact bW,rr⟩,rr,H9⟩
 |root=>exact cN h
 |named=>exact cN h
 |chosen=>exact cN h
 |heir=>exact cN h
 |three k M=>rcases M with rfl|rfl|rfl<;>exact cN h
 |copy k M=>rcases M with rfl|rfl<;>exact cN h
def Dv (g:bB r)(h:kindOf r∈cY):aw [r,.str "stretch"]=some (iD (fy r),false):=by
 obtain⟨a,k,aj,rfl,d⟩:=g;obtain⟨⟨i,h1,h2⟩,_⟩:=Nx d h;exact bc h1 h2
def xh (h:kindOf r = "leave"):kindOf r∈cY:=by rw[h];decide +kernel
def Pg (g:bB r)(h:aD r=true\/kindOf r = "leave"):aw [r,.str "further"]=sI (lb r):=by
 rcases h with h|h
 .obtain⟨a,o,rl,m,f,rfl,_,_⟩:=lD g h;rfl
 .obtain⟨a,d,b,p,m,x,f,e,_,_,_,M⟩:=oZ g h;rw[e];rfl
def rZ (r v:D):Bool:=decide (gL v &&& gL r=gL r) && !(mH r && decide (lb v<=lb r))
def oi (r v:D):D:=if decide (gL v &&& gL r=gL r)=true then (if(mH r && decide (lb v<=lb r))=true then .str "further" else .non)else .str "matters"
def zo (U:bB r)(gv:bB v)(g:kindOf r∈cY)(kv:aD v=true\/kindOf v = "leave"):∃d,oK [r,v]=some (d,false)/\SW d .non=sO (rZ r v)/\d=oi r v:=by
 have b:=kv.elim (Dr gv) λh=>xf gv (xh h);have e:bx (fA iz (ai (fA aw (fV 1 (ai (fS "matters") av))) (ai (fA aw (fV 0 (ai (fS "matters") av))) av))) [some (r,false),some (v,false)]=some _:=cj (a0 _ (a6 (a0 [v,.str "matters"] rr b) (a6 (a0 [r,.str "matters"] rr (xf U g)) rr)) (oh _ _));have i:bx (f2 jV (fA bj (fV 0 av)) (fS "leave")) [some (r,false),some (v,false)]=some (mH r):=bL (a:=kindOf r) (bb:=false) (a0 [r] rr (gU U.c)) rr;have j:mH r=true->bx (f2 WJ (fA aw (fV 0 (ai (fS "further") av))) (fA aw (fV 1 (ai (fS "further") av)))) [some (r,false),some (v,false)]=some _:=λh=>cj (aX (.int (lb r)) (.int (lb v)) (a0 [r,.str "further"] rr (Pg U (.inr (xy h)))) (a0 [v,.str "further"] rr (Pg gv kv)) rr);have f:=bO i j;unfold rZ;cases M:decide (gL v &&& gL r=gL r) with
 |false=>exact⟨.str "matters",ah rr (aW (ba (p:=false) (e.trans (by rw[M]))) (ak rr)),rr,by simp only[oi,M];rfl⟩
 |true=>
  cases O:(mH r && decide (lb v<=lb r)) with
  |true=>exact⟨.str "further",ah rr (aq (ba (p:=true) (e.trans (by rw[M]))) (aW (f.trans (by rw[O])) (ak rr))),rr,by simp only[oi,M,O];rfl⟩
  |false=>exact⟨.non,ah rr (aq (ba (p:=true) (e.trans (by rw[M]))) (aq (f.trans (by rw[O])) (ak rr))),rr,by simp only[oi,M,O];rfl⟩
def sd (h:k∈cY):k∈aS:=by
 have:∀k∈cY,k∈aS:=I9
 exact this k h
def gM (h:kindOf r∈cY):aD r=false:=by
 have:∀k∈cY,decide (k = "root")=false:=I9
 exact this _ h
def se (g:bB r)(h:aD r=false):bo [r]=sI (aA r):=by
 have:=rF g.c;simp_all[tF]
def zp (cs:List Cl)(r v:D):Bool:=dv cs (ao 0 v) (ao 3 v) (cP r) (aA r) && rZ r v
def JN (cs:List Cl)(r v:D):D:=if dv cs (ao 0 v) (ao 3 v) (cP r) (aA r)=true then oi r v else .str "holder"
def Ny (cs:List Cl)(M:cs.length<=60)(O:bB r)(gv:bB v)(U:kindOf r∈cY)(hv:aD v=true):∃d,iZ [.lst (cs.map aT),r,v]=some (d,false)/\SW d .non=sO (zp cs r v)/\d=JN cs r v:=by
 obtain⟨d,e,e2,g⟩:=zo O gv U (.inl hv);have c:bx (fA dX (fV 0 (fV 2 (ai (fA aw (fV 1 (ai (fS "by") av))) (ai (fA bo (fV 1 av)) av))))) [sL (cs.map aT),some (r,false),some (v,false)]=some (dv cs (ao 0 v) (ao 3 v) (cP r) (aA r)):=by
  refine cj (a0 _ (aP rr (aP rr (a6 (a0 _ rr (Dt O (gD (.inl (sd U))))) (a6 (a0 [r] rr (se O (gM U))) rr)))) ?_);obtain⟨a,o,rl,m,f,rfl,_,_⟩:=lD gv hv;exact wW cs M _ _
 unfold zp;cases b:dv cs (ao 0 v) (ao 3 v) (cP r) (aA r) with
 |false=>exact⟨.str "holder",ah rr (aW (ba (p:=false) (c.trans (by rw[b]))) (ak rr)),rr,by simp only[JN,b];rfl⟩
 |true=>exact⟨d,ah rr (aq (ba (p:=true) (c.trans (by rw[b]))) (ak (a0 [r,v] rr e))),e2,by grind[JN]⟩
def JP (cs:List Cl)(r v:D):Int:=match gA cs (ao 0 v) (ao 3 v) (aA r) with
 |.tup [_,_,.int n]=>n
 |_=>0
def JQ (h:dv cs o rl p day=true):∃n:Int,gA cs o rl day=.tup [.str "one",.str p,.int n]:=by
 unfold dv gA at h;unfold gA;generalize V7 cs o _=M at h |-;cases M with
 |nil=>
  have h:dm (.tup [.str _]) _=true:=h;simp_all
 |cons b r=>
  rw[oV]at h |-;split at h
  .have h:dm (.tup [.str _,.lst _]) _=true:=h;simp_all
  .rename_i hn;rw[if_neg hn];have h:dm (.tup [.str _,.str _]) _=true:=h;simp_all
def Nz (h:dv cs (ao 0 v) (ao 3 v) (cP r) (aA r)=true):gA cs (ao 0 v) (ao 3 v) (aA r)=.tup [.str "one",.str (cP r),.int (JP cs r v)]:=by
 obtain⟨n,e⟩:=JQ h;unfold JP;rw[e]
def VA (cs:List Cl)(r v:D):D:=.tup [.str "office",.str (ao 0 v),.int (JP cs r v)]
def si (g:∀r∈aa,bB r)(hv:v∈bd (ag aa ae)):bB v/\aD v=true:=by
 obtain⟨x,hx,rfl⟩:=vO hv;obtain⟨h1,h2⟩:=vN hx;exact⟨g _ (vL (aB h1)),h2⟩
def JR (hl:aa.length<=60)(ae:Int):(bd (ag aa ae)).length<=60:=by
 unfold bd;rw[vI];exact vR (vM _ _) (vR (bM _ _) hl)
def EX {aa:LD}(g:∀r∈aa,bB r)(hl:aa.length<=60)(ae:Int)(hn:((bd (ag aa ae)).map (ao 0)).Nodup)(cs:List Cl)(O:cs.length<=60){b:Nat}{r:D}(e:aa[b]? = some r)(j:kindOf r∈cY):
    gk [.tup aa,.int ae,.lst (cs.map aT),.int b]=lT (((bd (ag aa ae)).filter (zp cs r)).map (VA cs r)):=by
  have k:dN aa:=⟨hl,λr e=>(g r e).c⟩;have h:=g r (vL e);have q:=JR hl ae;have h1:=di (fi:=wH (fA iV (fV 0 (fV 1 av)))) (nT:=1) (cap:=[2,4]) (tg:=f7 0) (c:=bx (f2 SW (fA iZ (fV 1 (fV 2 (fV 0 av)))) (fC .non))) (fe:=am 0)
    (ρ:=[sT aa,sI ae,sL (cs.map aT),sI b,some (r,false),none]) (bd (ag aa ae)) id (zp cs r) id
    (by show(fA iV _ _).bind _=_;rw[a0 [.tup aa,.int ae] rr (mE k ae),lF hn];simp) N9 λv hv=>by
      obtain⟨gv,M⟩:=si g hv;obtain⟨d,l,e2,_⟩:=Ny cs O h gv j M;exact⟨[some (v,false),sL (cs.map aT),some (r,false)],rr,cj (aX d .non (a0 [.lst (cs.map aT),r,v] rr l) rr e2),λ_=>⟨false,rr⟩⟩
  rw[map_id]at h1;have n:aZ ((bd (ag aa ae)).filter (zp cs r))=true:=br λv hv=>(si g (vN hv).1).1.flat;refine ah rr (f9 r (aX (.tup aa) (.int b) rr rr (by simp[bi e])) h.flat (bE h1 n (ak ?_)));refine ir (fi:=dn (am 5)) (nT:=1) (cap:=[2,4]) (tg:=f7 0)
     ((bd (ag aa ae)).filter (zp cs r)) id (VA cs r) H9 (vR (vM _ _) N9) λv hv=>?_
  obtain⟨p,i⟩:=vN hv;obtain⟨gv,M⟩:=si g p;have U:(dv cs (ao 0 v) (ao 3 v) (cP r) (aA r) && rZ r v)=true:=i;rw[vC]at U;have hh:=Nz U.1;refine⟨[some (v,false),sL (cs.map aT),some (r,false)],rr,false,?_⟩;obtain⟨a,o,rl,m,f,rfl,_,_⟩:=lD gv M;refine a0 [.str "office",.str o,.int (JP cs r _)] (aP rr (a6 (a0 _ rr oW) (aP (aX (gA cs o rl (aA r)) (.int 2) (a0 _ (aP rr (aP rr (a6 (a0 [r] rr (se h (gM j))) rr))) (jd cs O _)) rr ?_) rr))) (aY _ H9);have hh:gA cs o rl (aA r)=_:=hh;rw[hh];rfl
noncomputable def Dx (day:Int)(x:Int×OI):Bool:=decide (x.1<=day) && (match x.2 with|none=>true|some u=>decide (day<u))
noncomputable def VB:OI->OI->Bool
 |_,none=>true
 |none,some _=>false
 |some x,some y=>decide (x<=y)
def N6 (a b:OI):kX [uD a,uD b]=sO (VB a b):=by
 cases b with
 |none=>rfl
 |some y=>
  cases a with
  |none=>rfl
  |some x=>rfl
def JU (a b:Int×OI):Bool:=decide (b.1<=a.1) && VB a.2 b.2
def RZ (a b:Int×OI):jI [iD a,iD b]=sO (JU a b):=
 ah rr (ak (ci (b1:=false) (by simp[iD,xC]) λ_=>a0 _ (aP (by simp[iD,ER]) (aP (by simp[iD,ER]) rr)) (N6 _ _)))
def Ph {aa:LD}{i:Nat}{r:D}(M:aa[i]? = some r)(g:bB r)(h:aD r=false):gT [.tup aa,.int i]=sT [.int (aA r),.int i]:=
 ah rr (ak (a0 _ (aP (a0 _ (by simp[bi M]) (se g h)) rr) q9))
def Yf (a b c d:Int):Xq (.tup [.int a,.int b]) (.tup [.int c,.int d])=sO (decide (a<c\/(a=c/\b<d))):=by
 show(aU _ _).map _=_;rw[RU];rfl
def zq {aa:LD}{i j:Nat}{x y:D}(hx:aa[i]? = some x)(hy:aa[j]? = some y)(M:bB x)(O:bB y)(nx:aD x=false)(U:aD y=false):ja [.tup aa,.int i,.int j]=sO (bv (x,i) (y,j)):=
 ah rr (ak (aX _ _ (a0 _ rr (Ph hx M nx)) (a0 _ rr (Ph hy O U)) (Yf _ _ _ _)))
def JV (r:D)(M:Nat)(x:D×Nat):Bool:=bv x (r,M) && ((Dx (aA r) (fy x.1) && JU (fy r) (fy x.1)) && rZ r x.1)
def Dy (r:D)(M:Nat)(x:D×Nat):D:=if bv x (r,M)=true then (if(Dx (aA r) (fy x.1) && JU (fy r) (fy x.1))=true then oi r x.1 else .str "days")else .str "order"
def N7 {aa:LD}{O M:Nat}{r l:D}(i:aa[O]? = some r)(hl:aa[M]? = some l)(a:bB r)(c:bB l)(e:kindOf r∈cY)(f:kindOf l = "leave"):∃d,oM [.tup aa,.int O,.int M]=some (d,false)/\SW d .non=sO (JV r O (l,M))/\d=Dy r O (l,M):=by
 have j:=gM e;have o:=gM (xh f);obtain⟨d,q,e2,s⟩:=zo a c e (.inr f);let E:DL.Env:=[sT aa,sI O,sI M,some (r,false),some (iD (fy l),false)];have m:∀ρ:DL.Env,ρ[0]? = some (sT aa)->ρ[2]? = some (sI M)->f2 eA (am 0) (am 2) ρ=some (l,false):=λρ h0 h2=>aX (.tup aa) (.int M) (by simp[h0]) (by simp[h2]) (by simp[bi hl]);have g:bx (fA ja (fV 0 (fV 2 (fV 1 av)))) E=some (bv (l,M) (r,O)):=cj (a0 [.tup aa,.int M,.int O] rr (zq hl i c a o j));have t:bx (fA nN (ai (fA bo (fV 3 av)) (fV 4 av))) E=some (Dx (aA r) (fy l)):=cj (a0 [.int (aA r),iD (fy l)] (a6 (a0 [r] rr (se a j)) (aP rr rr)) (Dk _ _ _));have u:bx (fA jI (ai (fA aw (fV 3 (ai (fS "stretch") av))) (fV 4 av))) E=some (JU (fy r) (fy l)):=cj (a0 [iD (fy r),iD (fy l)] (a6 (a0 [r,.str "stretch"] rr (Dv a e)) (aP rr rr)) (RZ _ _));have n:=bw (ba t) λ_=>ba u;have go:∀(h:FS)(res:Option Res),h E=res->cx (dO 3 (f2 eA (am 0) (am 1))) (cx (dO 4 (fA aw (ai (f2 eA (am 0) (am 2)) (ai (fS "stretch") av)))) h) [sT aa,sI O,sI M,none,none]=res:=λh res k=>
  f9 r (aX (.tup aa) (.int O) rr rr (by simp[bi i])) a.flat (f9 (iD (fy l)) (a0 [l,.str "stretch"] (a6 (m _ rr rr) rr) (Dv c (xh f))) (jO _) k)
 unfold JV;cases U:bv (l,M) (r,O) with
 |false=>exact⟨.str "order",ah rr (go _ _ (aW (ba (p:=false) (g.trans (by rw[U]))) (ak rr))),rr,by simp only[Dy,U];rfl⟩
 |true=>
  cases b:(Dx (aA r) (fy l) && JU (fy r) (fy l)) with
  |false=>exact⟨.str "days",ah rr (go _ _ (aq (ba (p:=true) (g.trans (by rw[U]))) (aW (n.trans (by rw[<-Bool.not_and,b];rfl)) (ak rr)))),rr,by simp only[Dy,U,b];rfl⟩
  |true=>exact⟨d,ah rr (go _ _ (aq (ba (p:=true) (g.trans (by rw[U]))) (aq (n.trans (by rw[<-Bool.not_and,b];rfl)) (ak (a0 [r,l] (aP rr (a6 (m _ rr rr) rr)) q))))),e2,by rw[s];simp only[Dy,U,b];rfl⟩
def lG {aa:LD}{ae:Int}{i:Nat}{r:D}(O:aa[i]? = some r)(g:bB r):iY [.tup aa,.int ae,.int i]=sO (decide (aG r<=ae) && mH r):=by
 have M:cU [.tup aa,.int ae,.int i]=sO (decide (aG r<=ae)):=by
  obtain⟨a,k,aj,rfl,d⟩:=g;exact jM O _
 exact ah rr (ak (ci (a0 _ rr M) λ_=>aX _ _ (a0 _ (aP (aX _ _ rr rr (by simp[bi O])) rr) (gU g.c)) rr (by simp[mH])))
noncomputable def zr (K:KL)(p:Str):KL:=(K.filter λx=>mH x.1).filter λx=>decide (ao 2 x.1=p)
def zt (g:∀r∈aa,bB r)(h:x∈zr (ag aa ae) p):aa[x.2]? = some x.1/\bB x.1/\kindOf x.1 = "leave":=by
 obtain⟨h1,_⟩:=vN h;obtain⟨h2,h3⟩:=vN h1;exact⟨aB h2,g _ (vL (aB h2)),xy h3⟩
def EY {aa:LD}(g:∀r∈aa,bB r)(hl:aa.length<=60)(ae:Int)(p:Str):oN [.tup aa,.int ae,.str p]=lT ((zr (ag aa ae) p).map λx=>.int x.2):=by
 have O:=bM aa ae;have h1:=di (fi:=dn (fA eY (fV 0 (fV 1 av)))) (nT:=1) (cap:=[0,1]) (tg:=f7 0) (c:=bx (fA iY (fV 1 (fV 2 (fV 0 av))))) (fe:=am 0)
  (ρ:=[sT aa,sI ae,sS p,none]) _ _ _ _
  (by show(fA eY _ _).bind _=_;rw[a0 _ rr (jK aa (λr U=>(g r U).c.rp) N9 ae)];rfl) N9 λx hx=>by
   have hk:=(vN hx).2;have:=lG (ae:=ae) (aB hx) (g _ (vL (aB hx)));rw[hk,Bool.true_and]at this;exact⟨_,rr,cj (a0 _ rr this),λ_=>⟨false,rr⟩⟩
 have M:aZ (((ag aa ae).filter λx=>mH x.1).map λx=>D.int x.2)=true:=br λd hd=>by obtain⟨x,_,rfl⟩:=vO hd;rfl
 refine ah rr (bE h1 M (ak ?_));refine di (fi:=dn (am 3)) (nT:=1) (cap:=[2,0]) (tg:=f7 0) (fe:=am 0)
  (ρ:=[sT aa,sI ae,sS p,lT (((ag aa ae).filter λx=>mH x.1).map λx=>.int x.2)]) ((ag aa ae).filter λx=>mH x.1) (λx=>.int x.2) _ _ H9 (vR (vM _ _) N9) λx hx=>?_
 obtain⟨h2,h3⟩:=vN hx;obtain⟨a,d,b,q,m,st,f,e,_⟩:=oZ (g _ (vL (aB h2))) (xy h3);refine⟨[sI x.2,sS p,sT aa],rr,cj (aX (.str (ao 2 x.1)) (.str p) (a0 [x.1,.str "person"] (aP (aX (.tup aa) (.int x.2) rr rr (by simp[bi (aB h2)])) rr) ?_) rr H9),λ_=>⟨false,rr⟩⟩;rw[e];rfl
def EZ {aa:LD}(g:∀r∈aa,bB r)(hl:aa.length<=60)(ae:Int){M:Nat}{r:D}(O:aa[M]? = some r)(a:kindOf r∈cY):
    kY [.tup aa,.int ae,.int M]=lT (((zr (ag aa ae) (cP r)).filter (JV r M)).map λx=>.tup [.str "leave",.int x.2]):=by
  have b:=g r (vL O);have e:=bM aa ae;have f:(zr (ag aa ae) (cP r)).length<=60:=vR (vM _ _) (vR (vM _ _) N9);have U:aZ ((zr (ag aa ae) (cP r)).map λx=>D.int x.2)=true:=br λd hd=>by obtain⟨x,_,rfl⟩:=vO hd;rfl
  refine ah rr (bE (a0 _ (aP rr (aP rr (a6 (a0 _ (aP (aX _ _ rr rr (by simp[bi O])) rr) (Dt b (gD (.inl (sd a))))) rr))) (EY g hl _ _)) U (ak ?_));refine di
     _ (λx=>.int x.2) _ _ H9 N9 λx hx=>?_
  obtain⟨h1,h2,h3⟩:=zt g hx;obtain⟨d,c,e2,_⟩:=N7 O h1 b h2 a h3;exact⟨[sF _,sF _,sF _],rr,cj (aX d _ (a0 _ rr c) rr e2),λ_=>⟨false,a0 _ rr (aY _ H9)⟩⟩
abbrev Bs:=Option Str×Int
noncomputable def Ll:Bs->D
 | (some o,n)=>.tup [.str "office",.str o,.int n]
 | (none,n)=>.tup [.str "leave",.int n]
noncomputable def zu:Bs->List At
 | (some o,n)=>[.i n,.s ("office" : Str),.s o,.i n]
 | (none,n)=>[.i n,.s ("leave" : Str),.i n]
def JX (b:Bs):aO (Ll b)=true:=by rcases b with⟨_|o,n⟩<;>rfl
def NA (b:Bs):eA (Ll b) (.int (-1))=sI b.2:=by rcases b with⟨_|o,n⟩<;>rfl
def JY (a b:Bs):(aU (zu a) (zu b)).isSome=true:=by
 have O:("office" : Str) ≠ "leave":=I9
 rcases a with⟨_|o,n⟩<;>rcases b with⟨_|o',M⟩
 .show(aU [.i n,.s _,.i n] [.i M,.s _,.i M]).isSome=true;rw[aU];split
  .simp_all[aU]
  .rfl
 .show(aU [.i n,.s _,.i n] [.i M,.s _,.s o',.i M]).isSome=true;rw[aU];split
  .rfl
  .rfl
 .show(aU [.i n,.s _,.s o,.i n] [.i M,.s _,.i M]).isSome=true;rw[aU];split
  .rfl
  .rfl
 .show(aU [.i n,.s _,.s o,.i n] [.i M,.s _,.s o',.i M]).isSome=true;rw[aU];split
  .rw[aU,if_pos rr,aU];split
   .simp_all[aU]
   .rfl
  .rfl
def NB (h:zu a=zu b):a=b:=by
 rcases a with⟨_|o,n⟩<;>rcases b with⟨_|o',M⟩<;>simp[zu]at h
 .rw[h]
 simp_all
def Dz (l:List Bs):cy (l.map zu)=true:=by
 simp_all[cy,JY]
theorem JZ (e:bP (zu a)=bP (zu b)):a=b:=NB (kg (Dz [a,b]) H9 H9 e)
def toB (cs:List Cl)(r v:D):Bs:=(some (ao 0 v),JP cs r v)
def zv (K:KL)(cs:List Cl)(r:D)(M:Nat):List Bs:=((bd K).filter (zp cs r)).map (toB cs r)++((zr K (cP r)).filter (JV r M)).map λx=>(none,(x.2:Int))
def Bv (K:KL)(cs:List Cl)(r:D)(M:Nat):List Bs:=cL (λb=>bP (zu b)) (zv K cs r M)
def Fa (hn:((bd (ag aa ae)).map (ao 0)).Nodup)(cs:List Cl)(r:D)(M:Nat):(zv (ag aa ae) cs r M).Nodup:=by
 unfold zv;rw[nodup_append];refine⟨?_,?_,?_⟩
 .exact pairwise_map.mpr ((List.Pairwise.sublist filter_sublist (pairwise_map.mp hn)).imp λh e=>h (vK (Prod.mk.inj e).1))
 .refine pairwise_map.mpr ((List.Pairwise.sublist (filter_sublist.trans (filter_sublist.trans filter_sublist)) (pairwise_map.mp (cc _ _))).imp λh e=>h ?_);lia
 .intro a ha b hb e;obtain⟨v,_,rfl⟩:=vO ha;obtain⟨x,_,rfl⟩:=vO hb;cases (Prod.mk.inj e).1
theorem uF {α:Type}{g:α->D}{h:α->List At}:∀(l:List α),(∀x∈l,Rz (g x)=some (h x))->kR (l.map g)=some (l.map h)
 |[],_=>rr
 |x::l,k=>by
  rw[uY,kR,k x mX,uF l λy hy=>k y (mZ _ hy)];rfl
def D0 (hl:aa.length<=30)(ae:Int)(cs:List Cl)(r:D)(M:Nat):(zv (ag aa ae) cs r M).length<=60:=by
 have h1:((bd (ag aa ae)).filter (zp cs r)).length<=30:=by
  grind[bd,bM]
 grind[bM,zr,zv]
def Ka {f:FE}{ρ:DL.Env}{b:Bool}(l:List Bs)(hl:l.length<=60)(hn:l.Nodup)(e:f ρ=some (.lst (l.map Ll),b)):Be f (yJ [] (fA bX (ai (f2 eA (am 0) (f1 Mx (fI 1))) (fV 0 av)))) ρ=lT ((cL (λb=>bP (zu b)) l).map Ll):=by
 have hm:j4 (yJ [] (fA bX (ai (f2 eA (am 0) (f1 Mx (fI 1))) (fV 0 av))) ρ) _=some _:=gz l λb _=>by
  show(fA bX _ _).map _=_;rw[a0 _ (aP (aX (Ll b) _ rr rr (NA b)) (aP rr rr)) (aY _ H9)];rfl
 have hk:kR (l.map λb=>D.tup [.int b.2,Ll b])=some (l.map zu):=uF l λb _=>by rcases b with⟨_|o,n⟩<;>rfl
 have M:(l.map zu).length<64/\cy (l.map zu)=true/\True/\((l.map zu).map bP).Nodup:=by
  refine⟨by rw[vI];lia,Dz l,trivial,?_⟩;rw[uP];exact pairwise_map.mpr (List.Pairwise.imp (λh e=>h (JZ e)) hn)
 unfold Be wD;rw[e];simp only[vJ];rw[hm];simp only[vJ];rw[hk];simp only[vJ];rw[if_pos M];unfold ie;have key:((cL (λb=>bP (zu b)) l).map λb=>(zu b,Ll b))=cL (λp=>bP p.1) (l.map λb=>(zu b,Ll b)):=by
  refine dS _ (λx hx y hy e=>?_) ((a9 _ _).map _) ?_
  .grind[JZ]
  .exact pairwise_map.mpr (bR _ _)
 rw[zip_map',<-key,uP];rfl
section
variable {aa:LD}(g:∀r∈aa,bB r) (hl:aa.length<=30) (ae:Int) (hn:((bd (ag aa ae)).map (ao 0)).Nodup)
include g hl hn
theorem zw (cs:List Cl)(l:cs.length<=60){M:Nat}{r:D}(U:aa[M]? = some r)(e:kindOf r∈cY)(hk:aG r<=ae):eO [.tup aa,.int ae,.lst (cs.map aT),.int M]=lT ((Bv (ag aa ae) cs r M).map Ll):=by
 have f:=g r (vL U);have h:∀(ρ:DL.Env)(j:Nat),ρ[0]? = some (sT aa)->ρ[j]? = some (sI M)->fA bj (ai (f2 eA (am 0) (am j)) av) ρ=sS (kindOf r):=λρ j h0 h2=>a0 [r] (aP (aX (.tup aa) (.int M) (by simp[h0]) (by simp[h2]) (by simp[bi U])) rr) (gU f.c);have m:cU [.tup aa,.int ae,.int M]=sO true:=by
  obtain⟨a,k,aj,rfl,d⟩:=id f;rw[jM U ae,ou (show a<=ae from hk)]
 have n:gg [.tup aa,.int ae,.int M]=sO (decide _):=ah rr (ak (ci (p:=true) (a0 [.tup aa,.int ae,.int M] rr m) λ_=>aX (.str (kindOf r)) (.tup ([("paper" : Str),"like","copy"].map .str)) (h _ 2 rr rr) rr (gu _ _)));have hb:gh [.tup aa,.int ae,.int M]=sO true:=by
  refine(ah rr (ak (uz (a0 [.tup aa,.int ae,.int M] rr (lG U f)) λ_=>a0 [.tup aa,.int ae,.int M] rr n))).trans ?_;rw[ou hk,Bool.true_and];have:∀k∈cY,(decide (k = "leave") || decide (k∈[("paper" : Str),"like","copy"]))=true:=I9
  unfold mH;rw[this _ e]
 have o:decide (kindOf r = "copy")=false:=by
  have:∀k∈cY,decide (k = "copy")=false:=I9
  exact this _ e
 have i:=D0 hl ae cs r M;have q:aZ ((zv (ag aa ae) cs r M).map Ll)=true:=br λd hd=>by obtain⟨b,_,rfl⟩:=vO hd;exact JX b
 refine ah rr (aq (ba (p:=true) (cj (a0 [.tup aa,.int ae,.int M] rr hb))) (aq (bL (a:=kindOf r) (bb:=false) (h _ 3 rr rr) o) (bE ?_ q (ak (Ka (b:=false) _ i (Fa hn cs r M) rr)))));have ho:=EX g N9 ae hn cs l U e;have hv:=EZ g N9 ae U e;refine eI (b1:=true) (b2:=true) (a0 _ rr ho) (a0 [.tup aa,.int ae,.int M] rr hv) ?_;have O:=i;unfold zv at O |-;rw[uZ,vI,vI]at O;refine(if_pos (cD (by grind))).trans ?_;rw[uW,uP,uP];rfl
end
def gE (K:KL)(c r:D):Bool:=decide (cP c=cP r) || (!decide (kindOf r = "copy") && (bd K).any λv=>decide (gL v &&& gL r=gL r) && dv (aE K) (ao 0 v) (ao 3 v) (cP c) (aA c))
def any_filter {α:Type}(l:List α)(p f:α->Bool):((l.filter p).map f).any id=l.any λx=>p x && f x:=by
 simp
def Sa {aa:LD}(g:∀r∈aa,bB r)(hl:aa.length<=60)(ae:Int)(t:(aE (ag aa ae)).length<=60)(hn:((bd (ag aa ae)).map (ao 0)).Nodup){O U:Nat}{c r:D}(hc:aa[O]? = some c)(h:aa[U]? = some r)(n:kindOf c = "call")(p:kindOf r∈aS):
  rd [.tup aa,.int ae,.lst ((aE (ag aa ae)).map aT),.int O,.int U]=sO (gE (ag aa ae) c r):=by
 have u:dN aa:=⟨hl,λr h=>(g r h).c⟩;have q:=g c (vL hc);have i:=g r (vL h);have s:=bi hc;have w:=bi h;have y:=Dt q (gD (.inr n));have z:=Dt i (gD (.inl p));have j:∀v∈bd (ag aa ae),bB v/\aD v=true:=λv hv=>by
  obtain⟨x,hx,rfl⟩:=vO hv;obtain⟨h1,h2⟩:=vN hx;exact⟨g _ (vL (aB h1)),h2⟩
 have A:(bd (ag aa ae)).length<=60:=by
  unfold bd;rw[vI];exact vR (vM _ _) (vR (bM aa ae) hl)
 have B:bo [c]=sI (aA c):=by
  have:=rF q.c;unfold tF at this;rwa [if_neg (by unfold aD;rw[n];decide +kernel)]at this
 have b:∀(d:OB),bx (f2 jV (am 6) (fA aw (fV 5 (ai (fS "by") av)))) [sT aa,sI ae,sL ((aE (ag aa ae)).map aT),sI O,sI U,some (r,false),sS (cP c),d]=some (decide (cP c=cP r)):=λd=>cj (aX (.str (cP c)) (.str (cP r)) rr (a0 [r,.str "by"] rr z) H9);have e:∀(d:OB),bx (f2 jV (fA bj (fV 5 av)) (fS "copy")) [sT aa,sI ae,sL ((aE (ag aa ae)).map aT),sI O,sI U,some (r,false),sS (cP c),d]=some (decide (kindOf r = "copy")):=λd=>bL (a:=kindOf r) (bb:=false) (a0 [r] rr (gU i.c)) rr;refine ah rr (f9 r (aX (.tup aa) (.int U) rr rr (by simp[w])) i.flat (f9 (.str (cP c)) (a0 [c,.str "by"] (aP (aX (.tup aa) (.int O) rr rr (by simp[s])) rr) y) rr ?_));unfold gE;cases h1:decide (cP c=cP r) with
 |true=>exact aW ((b none).trans (by rw[h1])) (ak rr)
 |false=>
  refine aq ((b none).trans (by rw[h1])) ?_;cases h2:decide (kindOf r = "copy") with
  |true=>exact aW ((e none).trans (by rw[h2])) (ak rr)
  |false=>
   have C:kindOf r∈cY:=by
    have E:=of_decide_eq_false h2;have:∀k∈aS,k ≠ "copy"->k∈cY:=I9
    exact this _ p E
   have pm:=xf i C;refine aq ((e none).trans (by rw[h2])) ?_;have M:=di (fi:=wH (fA iV (fV 0 (fV 1 av)))) (nT:=1) (cap:=[5]) (tg:=f7 0) (c:=bx (fA iz (ai (fA aw (fV 0 (ai (fS "matters") av))) (ai (fA aw (fV 1 (ai (fS "matters") av))) av)))) (fe:=am 0)
    (ρ:=[sT aa,sI ae,sL ((aE (ag aa ae)).map aT),sI O,sI U,some (r,false),sS (cP c),none]) (bd (ag aa ae)) id (λv=>decide (gL v &&& gL r=gL r)) id
    (by show(fA iV _ _).bind _=_;rw[a0 [.tup aa,.int ae] rr (mE u ae),lF hn];simp) N9 λv hv=>by
     obtain⟨gv,l⟩:=j v hv;exact⟨[some (v,false),some (r,false)],rr,cj (a0 [.int (gL v),.int (gL r)] (a6 (a0 [v,.str "matters"] rr (Dr gv l)) (a6 (a0 [r,.str "matters"] rr pm) rr)) (oh _ _)),λ_=>⟨false,rr⟩⟩
   rw[map_id]at M;refine bE M (br λv hv=>(j v (vN hv).1).1.flat) (ak ?_);have F:=ir (fi:=dn (am 7)) (nT:=1) (cap:=[2,6,0,3]) (tg:=f7 0) (fe:=fA dX (fV 1 (fV 0 (fV 2 (ai (fA bo (ai (f2 eA (am 3) (am 4)) av)) av)))))
    (ρ:=[sT aa,sI ae,sL ((aE (ag aa ae)).map aT),sI O,sI U,some (r,false),sS (cP c),lT ((bd (ag aa ae)).filter λv=>decide (gL v &&& gL r=gL r))]) ((bd (ag aa ae)).filter λv=>decide (gL v &&& gL r=gL r)) id (λv=>.bl (dv (aE (ag aa ae)) (ao 0 v) (ao 3 v) (cP c) (aA c)))
    H9 (vR (vM _ _) N9) λv hv=>by
     obtain⟨gv,l⟩:=j v (vN hv).1;obtain⟨a,o,rl,m,f,rfl,_,_⟩:=lD gv l;exact⟨[some (row a ("root" : Str) [.str o,.int m,.int f,.str rl],false),sL ((aE (ag aa ae)).map aT),sS (cP c),sT aa,sI O],rr,false,a0 _ (aP rr (aP rr (aP rr (a6 (a0 [c] (aP (aX (.tup aa) (.int O) rr rr (by simp[s])) rr) B) rr)))) (wW _ t _ _)⟩
   refine(a0 [_] (a6 F rr) ?_);show(wo _).map _=_;rw[Io,Option.map_some,any_filter];rfl
def Bw (g:bB r)(h:kindOf r = "call"):∃a d b,∃n:Nat,r=row a ("call" : Str) [.int d,.str b,.int n]:=by
 obtain⟨a,k,aj,rfl,d⟩:=g;have hk:k = "call":=h;clear h;cases d with
 |copy k M d b n=>subst hk;exact⟨a,d,b,n,rr⟩
 |root=>exact cN hk
 |named=>exact cN hk
 |chosen=>exact cN hk
 |heir=>exact cN hk
 |three k M=>rcases M with rfl|rfl|rfl<;>exact cN hk
 |leave=>exact cN hk
 |paper k M=>rcases M with rfl|rfl<;>exact cN hk
def iA (aa:LD)(ae:Int)(M:Nat)(r:D)(day:Int)(c:D):Bool:=decide (kindOf c = "call") && (decide (dz 2 c=M) && (decide (aA c<=day) && (c9 aa ae c && gE (ag aa ae) c r)))
def By (e:f ρ=some (.str a,bb)):bx (f2 wg f (fS b)) ρ=some (!decide (a=b)):=by simp_all
section
variable {aa:LD}(g:∀r∈aa,bB r) (hl:aa.length<=60) (ae:Int) (jg:(aE (ag aa ae)).length<=60) (hn:((bd (ag aa ae)).map (ao 0)).Nodup)
include g hl jg hn
theorem zx {O M:Nat}{c r:D}(hc:aa[O]? = some c)(f:aa[M]? = some r)(k:kindOf r∈aS)(day:Int):lA [.tup aa,.int ae,.lst ((aE (ag aa ae)).map aT),.int O,.int M,.int day]=sO (iA aa ae M r day c):=by
 have e:=g c (vL hc);have l:=bi hc;have j:bx (f2 wg (fA bj (fV 6 av)) (fS "call")) [sT aa,sI ae,sL ((aE (ag aa ae)).map aT),sI O,sI M,sI day,some (c,false)]=some (!decide (kindOf c = "call")):=By (a:=kindOf c) (bb:=false) (a0 [c] rr (gU e.c));refine ah rr (f9 c (aX (.tup aa) (.int O) rr rr (by simp[l])) e.flat ?_);unfold iA;by_cases hk:kindOf c = "call"
 .obtain⟨a,d,b,n,i⟩:=Bw e hk;have m:dz 2 c=(n:Int):=by rw[i];rfl
  have e2:aA c=d:=by rw[i];rfl
  have po:aw [c,.str "of"]=sI n:=by rw[i];rfl
  have o:bo [c]=sI d:=by
   have:=rF e.c;unfold tF at this;rwa [if_neg (by unfold aD;rw[hk];decide +kernel),e2]at this
  have s:bx (f2 wg (fA aw (fV 6 (ai (fS "of") av))) (am 4)) [sT aa,sI ae,sL ((aE (ag aa ae)).map aT),sI O,sI M,sI day,some (c,false)]=some (!decide ((n:Int)=M)):=cj (aX (.int n) (.int M) (a0 [c,.str "of"] rr po) rr H9);have t:bx (f2 SU (fA bo (fV 6 av)) (am 5)) [sT aa,sI ae,sL ((aE (ag aa ae)).map aT),sI O,sI M,sI day,some (c,false)]=some (decide (day<d)):=cj (aX (.int d) (.int day) (a0 [c] rr o) rr rr);have U:=bw j λ_=>bw s λ_=>t;rw[m,e2,ou hk,Bool.true_and];rw[ou hk]at U;by_cases h1:(n:Int)=M
  .by_cases h2:d<=day
   .rw[ou h1,ou h2,Bool.true_and,Bool.true_and];rw[ou h1,xx N9]at U;exact aq U (ak (ci (a0 [.tup aa,.int ae,.int O] rr (rE aa (λr f=>(g r f).c.rp) N9 ae hc)) λ_=>a0 _ rr (Sa g hl ae jg hn hc f hk k)))
   .rw[xx h2,Bool.false_and,Bool.and_false];rw[ou h1,ou (show day<d by lia)]at U;exact aW U (ak rr)
  .rw[xx h1,Bool.false_and];rw[xx h1]at U;exact aW U (ak rr)
 .rw[xx hk,Bool.false_and];refine aW (bw (p:=true) (q:=false) (j.trans (by rw[xx hk];rfl)) λh=>by cases h) (ak rr)
def lH (aa:LD)(ae:Int)(M:Nat)(r:D)(day:Int):LN:=if aG r<=ae/\kindOf r∈aS then ((ag aa ae).filter λx=>iA aa ae M r day x.1).map (·.2)else []
theorem zy {M:Nat}{r:D}(O:aa[M]? = some r)(day:Int):re [.tup aa,.int ae,.lst ((aE (ag aa ae)).map aT),.int M,.int day]=lT ((lH aa ae M r day).map λn:Nat=>.int n):=by
 have b:=g r (vL O);have i:=bi O;have f:cU [.tup aa,.int ae,.int M]=sO (decide (aG r<=ae)):=by
  obtain⟨a,k,aj,e,d⟩:=b;rw[e]at O;rw[show aG r=a by rw[e];rfl];exact jM O ae
 have h:∀ρ:DL.Env,ρ[0]? = some (sT aa)->ρ[2]? = some (sI M)->fA bj (ai (f2 eA (am 0) (am 2)) av) ρ=sS (kindOf r):=λρ h0 h2=>a0 [r] (aP (aX (.tup aa) (.int M) (by simp[h0]) (by simp[h2]) (by simp[i])) rr) (gU b.c);have j:iY [.tup aa,.int ae,.int M]=sO (decide (aG r<=ae) && decide (kindOf r = "leave")):=ah rr (ak (ci (a0 [.tup aa,.int ae,.int M] rr f) λ_=>aX (.str (kindOf r)) (.str "leave") (h _ rr rr) rr H9));have l:gg [.tup aa,.int ae,.int M]=sF _:=ah rr (ak (ci (a0 [.tup aa,.int ae,.int M] rr f) λ_=>aX (.str (kindOf r)) (.tup ([("paper" : Str),"like","copy"].map .str)) (h _ rr rr) rr (gu _ _)));have hb:gh [.tup aa,.int ae,.int M]=sO (decide (aG r<=ae/\kindOf r∈aS)):=by
  refine(ah rr (ak (uz (a0 [.tup aa,.int ae,.int M] rr j) λ_=>a0 [.tup aa,.int ae,.int M] rr l))).trans ?_;congr 3;simp only[aS,mem_cons,not_mem_nil,or_false];by_cases h1:aG r<=ae
  .simp[h1]
  .simp[h1]
 unfold lH;by_cases hx:aG r<=ae/\kindOf r∈aS
 .rw[if_pos hx];refine ah rr (aq (ba (p:=true) (cj (a0 [.tup aa,.int ae,.int M] rr (by rw[hb,ou hx])))) (ak ?_));have U:=di (fi:=dn (fA eY (fV 0 (fV 1 av)))) (nT:=1) (cap:=[0,1,2,3,4]) (tg:=f7 0) (c:=bx (fA lA (fV 1 (fV 2 (fV 3 (fV 0 (fV 4 (fV 5 av)))))))) (fe:=am 0)
   (ρ:=[sT aa,sI ae,sL ((aE (ag aa ae)).map aT),sI M,sI day]) (ag aa ae) (λx=>.int x.2) (λx=>iA aa ae M r day x.1) (λx=>.int x.2)
   (by show(fA eY _ _).bind _=_;rw[a0 [.tup aa,.int ae] rr (jK aa (λr O=>(g r O).c.rp) N9 ae)];rfl) (vR (bM aa ae) N9) λx m=>by
    exact⟨_,rr,cj (a0 _ rr (zx g hl ae jg hn (aB m) O hx.2 day)),λ_=>⟨false,rr⟩⟩
  rw[uP];exact U
 .rw[if_neg hx];exact ah rr (aW (ba (p:=false) (cj (a0 [.tup aa,.int ae,.int M] rr (by rw[hb,xx hx])))) (ak (a0 [] rr (cw _ H9))))
omit jg in
end
def eZ:LS:=[("paper" : Str),"like","copy"]
noncomputable def sV (w:Str):Bs->D
 | (some o,n)=>.tup [.str "office",.str o,.int n]
 | (none,n)=>.tup [.str w,.int n]
def Lm (r:D):Str:=if kindOf r = "copy" then ("copy" : Str)else ("leave" : Str)
def z4 (w:Str)(b:Bs):aO (sV w b)=true:=by rcases b with⟨_|o,n⟩<;>rfl
def Fb {aa:LD}{n:Nat}(h:aa.length<=n)(ae:Int):cU [.tup aa,.int ae,.int n]=sO false:=by
 refine ah rr (ak (ci (p:=false) (q:=false) (b1:=false) ?_ λz=>by cases z));have h1:¬(n:Int)<aa.length:=N9
 exact(iq (p:=true) (z:=.int aa.length) (b3:=false) (b4:=false) rr rr H9 H9 λ_=>by simp[h1])
def Kb {aa:LD}{i:Nat}{r:D}(M:aa[i]? = some r)(g:bB r)(ae:Int):cU [.tup aa,.int ae,.int i]=sO (decide (aG r<=ae)):=by
 obtain⟨a,k,aj,rfl,d⟩:=g;exact jM M _
def D1 {aa:LD}{i:Nat}{r:D}(M:aa[i]? = some r)(g:bB r){ρ:DL.Env}{j:Nat}(h0:ρ[0]? = some (sT aa))(hj:ρ[j]? = some (sI i)):fA bj (ai (f2 eA (am 0) (am j)) av) ρ=sS (kindOf r):=
 a0 _ (aP (aX (.tup aa) (.int i) (by simp[h0]) (by simp[hj]) (by simp[bi M])) rr) (gU g.c)
def z6 {aa:LD}{i:Nat}{r:D}(M:aa[i]? = some r)(g:bB r)(ae:Int):gg [.tup aa,.int ae,.int i]=sO (decide (aG r<=ae) && decide (kindOf r∈eZ)):=
 ah rr (ak (ci (a0 _ rr (Kb M g _)) λ_=>aX _ (.tup (eZ.map _)) (D1 M g rr rr) rr (gu _ _)))
def z8 {aa:LD}{i:Nat}{r:D}(M:aa[i]? = some r)(g:bB r)(ae:Int):gh [.tup aa,.int ae,.int i]=sO (decide (aG r<=ae) && decide (kindOf r∈aS)):=by
 refine(ah rr (ak (uz (a0 _ rr (lG M g)) λ_=>a0 _ rr (z6 M g _)))).trans ?_;unfold mH;simp only[aS,eZ,or_false];by_cases h1:aG r<=ae
 .simp[h1]
 .simp[h1]
def jP (aa:LD)(ae:Int)(r:D)(M n:Nat):Bool:=match aa[n]? with
 |none=>false
 |some q=>(decide (aG q<=ae) && decide (kindOf q∈eZ)) && bv (q,n) (r,M)
def sj (g:bB r)(h:kindOf r = "copy"):∃a d b,∃n:Nat,r=row a ("copy" : Str) [.int d,.str b,.int n]:=by
 obtain⟨a,k,aj,rfl,d⟩:=g;have hk:k = "copy":=h;clear h;cases d with
 |copy k M d b n=>subst hk;exact⟨a,d,b,n,rr⟩
 |root=>exact cN hk
 |named=>exact cN hk
 |chosen=>exact cN hk
 |heir=>exact cN hk
 |three k M=>rcases M with rfl|rfl|rfl<;>exact cN hk
 |leave=>exact cN hk
 |paper k M=>rcases M with rfl|rfl<;>exact cN hk
def sk (h:kindOf r∈eZ):aD r=false:=by
 have:∀k∈eZ,decide (k = "root")=false:=I9
 exact this _ h
def Fc {aa:LD}(g:∀r∈aa,bB r)(ae:Int){M:Nat}{r:D}(U:aa[M]? = some r)(c:kindOf r = "copy"):∃n:Nat,dz 2 r=n/\m9 [.tup aa,.int ae,.int M]=lT ((if jP aa ae r M n=true then [((none,(n:Int)):Bs)]else []).map (sV ("copy" : Str))):=by
 have e:=g r (vL U);obtain⟨a,d,b,n,er⟩:=sj e c;have i:aD r=false:=sk (by rw[c];decide +kernel);have po:aw [r,.str "of"]=sI n:=by rw[er];rfl
 refine⟨n,by rw[er];rfl,?_⟩;let E:DL.Env:=[sT aa,sI ae,sI M,sI n];refine ah rr (f9 (.int n) (a0 [r,.str "of"] (aP (aX (.tup aa) (.int M) rr rr (by simp[bi U])) rr) po) rr ?_);have O:fg (bx (fA gg (fV 0 (fV 1 (fV 3 av))))) (bx (fA ja (fV 0 (fV 3 (fV 2 av))))) E=some (jP aa ae r M n):=by
  unfold jP;cases hq:aa[n]? with
  |none=>
   have hn:aa.length<=n:=List.getElem?_eq_none_iff.mp hq;exact bO (p:=false) (q:=false) (cj (a0 [.tup aa,.int ae,.int n] rr (ah rr (ak (ci (p:=false) (q:=false) (a0 [.tup aa,.int ae,.int n] rr (Fb hn ae)) λz=>by cases z))))) λz=>by cases z
  |some q=>
   have f:=g q (vL hq);exact bO (cj (a0 [.tup aa,.int ae,.int n] rr (z6 hq f ae))) λh=>by
    rw[vC]at h;exact cj (a0 [.tup aa,.int n,.int M] rr (zq hq U f e (sk (xy h.2)) i))
 cases hv:jP aa ae r M n with
 |true=>
  rw[hv]at O;rw[if_pos rr];exact aW O (ak (a0 [.tup [.str "copy",.int n]] (aP (a0 [.str "copy",.int n] rr (aY _ H9)) rr) (cw _ H9)))
 |false=>
  rw[hv]at O;rw[if_neg O9];exact aq O (ak (a0 [] rr (cw _ H9)))
def mI (aa:LD)(ae:Int)(cs:List Cl)(x:D×Nat):List Bs:=if kindOf x.1 = "copy" then (if jP aa ae x.1 x.2 (dz 2 x.1).toNat=true then [(none,dz 2 x.1)]else [])else Bv (ag aa ae) cs x.1 x.2
section
variable {aa:LD}(g:∀r∈aa,bB r) (hl:aa.length<=30) (ae:Int) (hn:((bd (ag aa ae)).map (ao 0)).Nodup)
include g hl hn
theorem NC (cs:List Cl)(U:cs.length<=60){a:Nat}{r:D}(O:aa[a]? = some r)(e:kindOf r∈aS)(hk:aG r<=ae):eO [.tup aa,.int ae,.lst (cs.map aT),.int a]=lT ((mI aa ae cs (r,a)).map (sV (Lm r))):=by
 have b:=g r (vL O);unfold mI Lm;by_cases M:kindOf r = "copy"
 .rw[if_pos M,if_pos M];obtain⟨n,c,e2⟩:=Fc g _ O M;rw[c];refine ah rr (aq (ba (p:=true) (cj (a0 _ rr ((z8 O b _).trans (by simp_all))))) (aW (bL (D1 O b rr rr) (ou M)) (ak (a0 _ rr e2))))
 .rw[if_neg M,if_neg M];have d:kindOf r∈cY:=by
   simp_all[aS,cY]
  exact zw g hl _ hn cs U O d hk
end
def Sb (e:f (jm ρ)=some (d,b))(k:h (ρ.set i (some (d,false)))=r):cx (BV i f) h ρ=r:=by simp_all
def D2 (e:ρ[i]? = some (some (.dk ks vs,b))):o5 i ρ=some (.rt (.dk ks vs) false):=by simp[o5,e]
def kN (x:D×Nat):cZ:=.inl (x.2:Int)
def pz (aa:LD)(ae day:Int)(x:D×Nat):Bool:=(c9 aa ae x.1 && decide (aA x.1<=day)) && (lH aa ae x.2 x.1 day).isEmpty
def ND {α:Type}(l:List α)(f:α->D):decide ((((l.map f).length:Nat):Int)=0)=l.isEmpty:=by
 cases l with
 |nil=>rfl
 |cons a l=>rfl
noncomputable def fH (aa:LD)(ae day:Int)(l:KL):KL:=l.filter λx=>decide (kindOf x.1∈aS) && pz aa ae day x
section
variable {aa:LD}(g:∀r∈aa,bB r) (hl:aa.length<=30) (ae:Int) (hn:((bd (ag aa ae)).map (ao 0)).Nodup)
include g hl hn
theorem Sc (O:(aE (ag aa ae)).length<=60){U:Nat}{r:D}(M:aa[U]? = some r)(d:kindOf r∈aS)(day:Int):rf [.tup aa,.int ae,.lst ((aE (ag aa ae)).map aT),.int U,.int day]=sO (pz aa ae day (r,U)):=by
 have f:=g r (vL M);have h:=by
  have:∀k∈aS,decide (k = "root")=false:=I9
  exact this _ d
 let E:DL.Env:=[sT aa,sI ae,sL ((aE (ag aa ae)).map aT),sI U,sI day];have i:bx (fA l8 (fV 0 (fV 1 (fV 3 av)))) E=some _:=cj (a0 _ rr (rE aa (λr M=>(g r M).c.rp) N9 ae M));have j:bx (f2 SU (fA bo (ai (f2 eA (am 0) (am 3)) av)) (am 4)) E=some _:=cj (aX _ (.int day) (a0 [r] (aP (aX (.tup aa) (.int U) rr rr (by simp[bi M])) rr) (se f h)) rr rr);have a:=bw (ba i) λ_=>j;have e:(!c9 aa ae r || decide (day<aA r)) = !(c9 aa ae r && decide (aA r<=day)):=by
  rw[Bool.not_and];congr 1;rw[<-decide_not];congr 1;rw[Int.not_le]
 rw[e]at a;unfold pz;cases b:(c9 aa ae r && decide (aA r<=day)) with
 |false=>
  rw[b]at a;exact ah rr (aW a (ak rr))
 |true=>
  rw[b]at a;refine ah rr (aq a (ak ?_));rw[<-ND _ λn:Nat=>.int n];exact aX _ (.int 0) (a0 _ (a6 (a0 _ rr (zy g N9 ae O hn M day)) rr) rr) rr H9
theorem sn (ho:(bA (ag aa ae)).length<=60)(day:Int):pF [.tup aa,.int ae,.int day]=sF (.dk ((fH aa ae day (bA (ag aa ae))).map kN) ((fH aa ae day (bA (ag aa ae))).map λx=>.lst ((mI aa ae (aE (ag aa ae)) x).map (sV (Lm x.1))))):=by
 have o:dN aa:=⟨N9,λr a=>(g r a).c⟩;obtain⟨p,U⟩:=ky (aa:=aa) o ae ho;have q:eJ [.tup aa,.int ae]=lT ((bA (ag aa ae)).map λx=>.int x.2):=oR o ae;generalize s:aE (ag aa ae)=cs at p U |-;have M:∀x∈bA (ag aa ae),x∈ag aa ae:=λx hx=>(vN ((a9 _ _).mem_iff.mp hx)).1;have t:((bA (ag aa ae)).map (·.2)).Nodup:=kx (cc aa ae);generalize bA (ag aa ae)=O at ho q M t |-;let l:D×Nat->D:=λx=>.lst ((mI aa ae cs x).map (sV (Lm x.1)));let E:KL->OB->DL.Env:=λL i=>[sT aa,sI ae,sI day,sL (cs.map aT),some (.dk (L.map kN) (L.map l),true),i];obtain⟨ρ',e,i,rfl⟩:=dW (tg:=f7 5) (g:=Jq) (λj ρ=>∃i,ρ=E (fH aa ae day (O.take j)) i) (O.map λx=>.int x.2) (E [] none) ⟨none,rr⟩ (by
  rintro j d ρ hd ⟨i,rfl⟩;rw[vA]at hd;obtain⟨x,hx,rfl⟩:=oY hd;have u:=M x (vL hx);have a:=aB u;have w:aG x.1<=ae:=xy (vN u).2;have z:=g x.1 (vL a);have A:O.take (j+1)=O.take j++[x]:=by rw[take_add_one,hx];rfl
  have v:fH aa ae day (O.take (j+1))=fH aa ae day (O.take j)++if(decide (kindOf x.1∈aS) && pz aa ae day x)=true then [x]else []:=by
   simp_all[fH,filter_cons]
  have k:x.2∉(fH aa ae day (O.take j)).map (·.2):=by
   have h2:((O.take (j+1)).map (·.2)).Nodup:=List.Nodup.sublist (List.Sublist.map _ (take_sublist _ _)) t;rw[A,uW,nodup_append]at h2;intro hm;obtain⟨y,hy,m⟩:=vO hm;exact h2.2.2 _ (uS ⟨y,(vN hy).1,rr⟩) _ H9 m
  have n:(fH aa ae day (O.take j)).length<=60:=vR (vM _ _) (vR (List.length_take_le' _ _) ho);generalize fH aa ae day (O.take j)=L at v k n;let F:DL.Env:=E L (sI x.2);have B:bx (fA gh (fV 0 (fV 1 (fV 5 av)))) F=some (decide (kindOf x.1∈aS)):=cj (a0 [.tup aa,.int ae,.int x.2] rr ((z8 a z ae).trans (by simp_all)));have C:=bO B λh=>cj (f:=fA rf (fV 0 (fV 1 (fV 3 (fV 5 (fV 2 av)))))) (a0 _ rr (by rw[<-s];exact Sc g hl ae hn (by rw[s];exact U) a (xy h) day));refine⟨F,E _ (sI x.2),rr,.inl (V5 C (λh=>?_) λh=>?_),sI x.2,by rw[v]⟩
  .rw[if_pos h];have G:kindOf x.1∈aS:=N9
   have H:qL 4 (am 5) (fA eO (fV 0 (fV 1 (fV 3 (fV 5 av))))) F=some (.nx (F.set 4 (some (.dk (dh (L.map kN) (kN x)) (cM (L.map kN) (L.map l) (kN x) (l x)),true)))):=by
    have ev:fA eO (fV 0 (fV 1 (fV 3 (fV 5 av)))) (jm F)=some (l x,true):=a0 [.tup aa,.int ae,.lst (cs.map aT),.int x.2] rr (NC g hl ae hn cs U a G w);show((fA eO _ (jm F)).bind _)=_;rw[ev];simp only[vJ];exact if_pos (c:=(L.map kN).length<sizeLine) (bq (by rw[vI];lia))
   rw[H];have hk:kN x∉L.map kN:=λhm=>by
    obtain⟨y,hy,m⟩:=vO hm;exact k (uS ⟨y,hy,by have:=Sum.inl.inj (show(Sum.inl (y.2:Int):cZ)=Sum.inl (x.2:Int)from m);lia⟩)
   unfold dh cM;rw[if_neg hk,if_neg hk];simp[F,E]
  .rw[h,if_neg O9,uQ];rfl)
 rw[vI,take_length]at e;exact ah rr (Sb (a0 [.tup aa,.int ae] rr p) (cu (ρ':=E [] none) rr (cu (fG (ds:=O.map λx=>.int x.2) (by show(fA eJ _ _).bind _=_;rw[a0 [.tup aa,.int ae] rr q];rfl) e) (D2 (b:=true) rr))))
end
def nK (n:Nat):cZ:=.inl (n:Int)
def Bz:Nat->D:=λ_=>.bl true
noncomputable def ce (S:LN)(b:Bs):Bool:=b.1.isSome || S.any λn=>decide ((n:Int)=b.2)
noncomputable def bJ (S:LN)(p:Nat×List Bs):LN:=if p.2.any (ce S)=true then S++[p.1]else S
noncomputable def bN (l:List (Nat×List Bs)):LN:=l.foldl bJ []
theorem sq (n:Int):∀S:LN,(bC (S.map nK) (S.map Bz) (.inl n)).isSome=S.any λm=>decide ((m:Int)=n)
 |[]=>rr
 |m::S=>by
  rw[uY,uY,bC,any_cons];by_cases h:(m:Int)=n
  .simp_all[nK]
  .rw[if_neg (show ¬nK m=.inl n from λz=>h (Sum.inl.inj z)),xx h,sq n S];rfl
def z9 (hw:decide (w=("office" : Str))=false)(S:LN)(b:Bs):pG [sV w b,.dk (S.map nK) (S.map Bz)]=sO (ce S b):=by
 rcases b with⟨_|o,n⟩
 .refine ah rr (ak (uz (b1:=false) (aX _ _ rr rr (by simp[of_decide_eq_false hw])) λ_=>aX _ _ rr rr ?_));show some (D.bl _,false)=_;rw[sq]
 rfl
def NE {α:Type}(l:List α)(f:α->Bool):QR [.lst (l.map λx=>.bl (f x))]=sO (l.any f):=by
 simp
theorem sr (h:m∈bJ S p):m∈S\/m=p.1:=by
 grind[bJ]
theorem fP:∀(l:List (Nat×List Bs))(S:LN)(m:Nat),m∈l.foldl bJ S->m∈S\/m∈l.map (·.1)
 |[],_,_,h=>.inl h
 |p::l,S,m,h=>by
  rcases fP l _ m h with h|h
  .grind[sr]
  .exact .inr (mZ _ h)
abbrev Rs:=Nat×Str×List Bs
noncomputable def su (p:Rs):D:=.lst (p.2.2.map (sV p.2.1))
def sW (p:Rs):Nat×List Bs:=(p.1,p.2.2)
def mJ (l:List Rs)(hl:l.length<=60)(hw:∀p∈l,decide (p.2.1 = "office")=false)(hb:∀p∈l,p.2.2.length<=100)(hn:(l.map (·.1)).Nodup):pH [.dk (l.map λp=>nK p.1) (l.map su)]=sF (.dk ((bN (l.map sW)).map nK) ((bN (l.map sW)).map Bz)):=by
 let E:LN->OB->OB->DL.Env:=λS M O=>[sF (.dk (l.map λp=>nK p.1) (l.map su)),some (.dk (S.map nK) (S.map Bz),true),M,O];have Ai:iQ (l.map λp=>nK p.1) (l.map su)=l.map λp=>.tup [.int (p.1:Int),su p]:=by
  unfold iQ;rw[zip_map',uP];rfl
 obtain⟨ρ',e,M,O,rfl⟩:=dW (tg:=FD [2,3]) (g:=Jr) (λj ρ=>∃M O,ρ=E (bN ((l.take j).map sW)) M O) (l.map λp=>.tup [.int (p.1:Int),su p]) (E [] none none) ⟨none,none,rr⟩ (by
  rintro j d ρ hd ⟨M,O,rfl⟩;rw[vA]at hd;obtain⟨p,hp,rfl⟩:=oY hd;have U:=vL hp;have f:l.take (j+1)=l.take j++[p]:=by rw[take_add_one,hp];rfl
  have es:bN ((l.take (j+1)).map sW)=bJ (bN ((l.take j).map sW)) (sW p):=by
   simp_all[bN]
  have c:p.1∉bN ((l.take j).map sW):=λhm=>by
   have h2:((l.take (j+1)).map (·.1)).Nodup:=List.Nodup.sublist (List.Sublist.map _ (take_sublist _ _)) hn;rw[f,uW,nodup_append]at h2;rcases fP _ _ _ hm with h|h
   .cases h
   .rw[uP]at h;exact h2.2.2 _ h _ H9 rr
  have i:(bN ((l.take j).map sW)).length<=60:=by
   have:∀(q:List (Nat×List Bs))(S:LN),(q.foldl bJ S).length<=S.length+q.length:=λq=>by
    induction q with
    |nil=>intro S;exact vT _
    |cons a q k=>
     intro S;refine vR (k _) ?_;unfold bJ;split
     .rw[uZ,vE,length_nil,vE];lia
     .rw[vE];lia
   have h3:=this ((l.take j).map sW) [];rw[vI,length_take,length_nil]at h3;exact vR h3 N9
  generalize bN ((l.take j).map sW)=S at es c i;let F:DL.Env:=E S (sI (p.1:Int)) (some (su p,false));have hc:=ir (fi:=dn (am 3)) (nT:=1) (cap:=[1]) (tg:=f7 0) (fe:=fA pG (fV 0 (fV 1 av))) (ρ:=F) p.2.2 (sV p.2.1) (λb=>.bl (ce S b)) rr (by have:=hb p U;lia) λb _=>⟨[some (sV p.2.1 b,false),sF (.dk (S.map nK) (S.map Bz))],rr,false,a0 [sV p.2.1 b,.dk (S.map nK) (S.map Bz)] rr (z9 (hw p U) S b)⟩;have m:bx (fA QR (ai _ av)) F=some (p.2.2.any (ce S)):=cj (a0 [.lst (p.2.2.map λb=>.bl (ce S b))] (a6 hc rr) (NE _ _));refine⟨F,E (bJ S (sW p)) (sI (p.1:Int)) (some (su p,false)),rr,.inl (V5 m (λh=>?_) λh=>?_),_,_,by rw[es]⟩
  .have hk:nK p.1∉S.map nK:=λhm=>by
    obtain⟨y,hy,n⟩:=vO hm;have:=Sum.inl.inj (show(Sum.inl (y:Int):cZ)=Sum.inl (p.1:Int)from n);exact c (by rw[show p.1=y by lia];exact hy)
   have o:yL 1 (am 2) (fC (.bl true)) F=some (.nx (F.set 1 (some (.dk (dh (S.map nK) (nK p.1)) (cM (S.map nK) (S.map Bz) (nK p.1) (.bl true)),true)))):=if_pos ⟨rr,bq (by rw[vI];lia)⟩;rw[o];unfold dh cM bJ;rw[if_neg hk,if_neg hk,if_pos (show(sW p).2.any (ce S)=true from h)];simp[F,E,sW,Bz]
  .unfold bJ;rw[if_neg (show ¬(sW p).2.any (ce S)=true by show ¬p.2.2.any (ce S)=true;rw[h];decide)];rfl)
 rw[vI,take_length]at e;exact ah rr (cu (ρ':=E [] none none) rr (cu (fG (by show some (iQ _ _)=_;rw[Ai]) e) (D2 (b:=true) rr)))
theorem uG:∀S:LN,ut (S.map nK)=some (S.map λ(n:Nat)=>(n:Int))
 |[]=>rr
 |n::S=>by
  show(ut _).map _=_;rw[uG S];rfl
theorem zF {α M:Type}(g:α->M)(f:M->LI)(x:α):∀l:List α,nv f (g x) (l.map g)=(nv (λa=>f (g a)) x l).map g
 |[]=>rr
 |y::r=>by
  rw[uY,nv,nv];split
  .rw[uY,zF g f x r]
  .rfl
theorem uH {α M:Type}(g:α->M)(f:M->LI):∀l:List α,cL f (l.map g)=(cL (λa=>f (g a)) l).map g
 |[]=>rr
 |x::l=>by
  show nv f _ (cL f _)=(nv _ x (cL _ l)).map g;rw[uH g f l,zF]
def zG (n:Int)(S:LN):FC (.int n) (S.map λ(m:Nat)=>D.int (m:Int))=S.any λm=>decide ((m:Int)=n):=by
 unfold FC;induction S with
 |nil=>rfl
 |cons m S M=>
  simp_all
def cG (aa:LD)(ae:Int)(x:D×Nat):List Bs:=mI aa ae (aE (ag aa ae)) x
def aJ (aa:LD)(ae day:Int):LN:=bN ((fH aa ae day (bA (ag aa ae))).map λx=>(x.2,cG aa ae x))
def aM (S:LN):LD:=(ft (S.map λ(n:Nat)=>(n:Int))).map .int
def B1 (r:D):decide (Lm r = "office")=false:=by
 unfold Lm;split
 .decide +kernel
 rfl
def Fd (S:LN)(h:S.length<=60):iO [.lst (S.map λ(n:Nat)=>.int (n:Int))]=lT (aM S):=by
 cases S with
 |nil=>rfl
 |cons n S=>
  have h1:dL ((n::S).map λ(n:Nat)=>D.int (n:Int))=none:=rr;have h2:∀l:List _,jy (l.map λ(n:Nat)=>D.int (n:Int))=some (l.map λ(n:Nat)=>(n:Int)):=λl=>by
   induction l with
   |nil=>rfl
   |cons a l M=>simp_all[jy]
  unfold iO;simp only[h1,h2 _];rw[if_pos (by rw[vI];lia)];rfl
def B3 (K:KL)(M:(K.map (·.2)).Nodup)(q:D×Nat->Bool)(hq:∀x,q x=true->aD x.1=false):cL (λx=>bP (kA x)) (K.filter q)=(bA K).filter q:=by
 refine(dS _ (λx hx y hy e=>nZ _ M (vN hx).1 (vN hy).1 (Br e)) ?_ (List.Pairwise.filter _ (bR _ _))).symm;refine((a9 _ _).filter q).trans ?_;have:(K.filter λx=>q x && !aD x.1)=K.filter q:=by
  congr 1;funext x;cases h:q x with
  |false=>rfl
  |true=>rw[hq x h];rfl
 simp_all
section
variable {aa:LD}(g:∀r∈aa,bB r) (hl:aa.length<=30) (ae:Int) (hn:((bd (ag aa ae)).map (ao 0)).Nodup) (ho:(bA (ag aa ae)).length<=60)
include hl
theorem sv (x:D×Nat):(cG aa ae x).length<=60:=by
 unfold cG mI;split
 .split
  .exact(by decide:1<=60)
  .exact uN _
 .unfold Bv;rw[(a9 _ _).length_eq];exact D0 hl _ _ _ _
theorem oj (day:Int):(aJ aa ae day).length<=60:=by
 have:∀(q:List _)(S:List _),(q.foldl bJ S).length<=S.length+q.length:=λq=>by
  induction q with
  |nil=>intro S;exact vT _
  |cons a q M=>
   intro S;refine vR (M _) ?_;unfold bJ;split
   .rw[uZ,vE,length_nil,vE];lia
   .rw[vE];lia
 have h3:=this ((fH aa ae day (bA (ag aa ae))).map λx=>(x.2,cG aa ae x)) [];have h4:(bA (ag aa ae)).length<=30:=by
  unfold bA;rw[(a9 _ _).length_eq];exact vR (vM _ _) (vR (bM _ _) hl)
 have h5:(fH aa ae day _).length<=30:=vR (vM _ _) h4;rw[vI,length_nil]at h3;exact vR h3 N9
include g hn ho
theorem pb (day:Int):gn [.tup aa,.int ae,.int day]=lT (aM (aJ aa ae day)):=by
 have M:=sn g hl ae hn ho day;have h4:(fH aa ae day _).length<=60:=vR (vM _ _) ho;have es:=mJ ((fH aa ae day _).map λx=>(x.2,Lm x.1,cG aa ae x)) (by rw[vI];exact h4)
  (λp hp=>by obtain⟨x,_,rfl⟩:=vO hp;exact B1 _) (λp hp=>by obtain⟨x,_,rfl⟩:=vO hp;exact vR (sv hl ae x) O9)
  (by rw[uP];exact List.Nodup.sublist (List.Sublist.map _ filter_sublist) (kx (cc aa ae)))
 rw[uP,uP,uP]at es;refine ah rr (ak (a0 [_] (a6 (a0 [_] (a6 (a0 _ rr M) rr) es) rr) ?_));show(ut ((aJ aa ae day).map nK)).bind _=_;rw[uG,vJ,if_pos (by grind[oj])];rfl
end
def xi (n:Nat)(S:LN):(S.any λm=>decide ((m:Int)=(n:Int)))=decide (n∈S):=by
 grind
def zH (n:Nat)(S:LN):(bC (S.map nK) (S.map Bz) (.inl (n:Int))).isSome=decide (n∈S):=by rw[sq,xi]
def Kc (n:Int)(S:LN):A9 (.int n) (.lst (S.map λ(m:Nat)=>.int (m:Int)))=sO (S.any λm=>decide ((m:Int)=n)):=by
 have M:(S.map λ(n:Nat)=>D.int (n:Int)).all fY=true:=by
  simp
 simp only[A9,fm,vJ];rw[if_pos ⟨rr,M⟩,zG]
def jQ (h:aQ 40 d=true):wg d d=sO false:=by
 unfold wg;rw[if_pos ⟨h,h⟩,ro 40 _ h];rfl
def kB (S:LN):aZ (aM S)=true:=br λd hd=>by obtain⟨n,_,rfl⟩:=vO hd;rfl
def lI (S:LN):aQ 40 (.lst (aM S))=true:=by
 simp [aQ,all_eq_true];intro d hd;obtain⟨n,_,rfl⟩:=vO hd;simp
def sw (aa:LD)(ae:Int):bd (ag aa ae)=aa.filter λv=>aD v && decide (aG v<=ae):=by
 unfold bd ag;rw[filter_filter];have:∀(l:List (D×Nat))(q:D->Bool),(l.filter λx=>q x.1).map _=(l.map _).filter q:=λl q=>by rw[filter_map];rfl
 refine(this _ λv=>aD v && decide (aG v<=ae)).trans ?_;rw[List.zipIdx_map_fst]
def Kd (aa:LD)(ae:Int):((bd (ag aa ae)).map (ao 0)).Sublist (mF aa):=by
 rw[sw];refine List.Sublist.map _ ?_;have:(aa.filter λv=>aD v && decide (aG v<=ae))=(aa.filter aD).filter λv=>decide (aG v<=ae):=by simp_all[Bool.and_comm]
 rw[this];exact filter_sublist
def sx (S:LN):LN:=cL (λn:Nat=>[(n:Int)]) S
def je (S:LN):aM S=(sx S).map λ(n:Nat)=>.int (n:Int):=by
 simp_all[aM,ft,sx,uH]
def kE {m:Nat}{S:LN}:m∈sx S↔m∈S:=(a9 _ _).mem_iff
def D3 (n:Nat)(S:LN):A9 (.int (n:Int)) (.lst (aM S))=sO (decide (n∈S)):=by
 rw[je,Kc,xi];exact congrArg sO (decide_eq_decide.mpr kE)
def cH (aa:LD)(ae day:Int):List Rs:=(fH aa ae day (bA (ag aa ae))).map λx=>(x.2,Lm x.1,cG aa ae x)
def VC (p:Rs):D:=.tup [.int (p.1:Int),su p]
def Ke {α:Type}{l:List α}{f:α->Nat}(h:(l.map f).Nodup):(l.map λx=>nK (f x)).Nodup:=by
 refine pairwise_map.mpr ((pairwise_map.mp h).imp λh e=>h ?_);have:=Sum.inl.inj (show(Sum.inl _:cZ)=Sum.inl _ from e);lia
theorem zI:∀(q:List (Nat×List Bs))(S:LN),(q.foldl bJ S).length<=S.length+q.length
 |[],_=>vT _
 |a::q,S=>by
  refine vR (zI q _) ?_;grind[bJ]
def B4 (q:List (Nat×List Bs)):(bN q).length<=q.length:=by grind[zI,bN]
section
variable {aa:LD}(g:∀r∈aa,bB r) (hl:aa.length<=30) (ae:Int) (hn:((bd (ag aa ae)).map (ao 0)).Nodup) (ho:(bA (ag aa ae)).length<=60)
theorem iB (day:Int):((cH aa ae day).map (·.1)).Nodup:=by
 unfold cH;rw[uP];exact List.Nodup.sublist (List.Sublist.map _ filter_sublist) (kx (cc _ _))
theorem Pj (day:Int):∀p∈cH aa ae day,decide (p.2.1 = "office")=false:=λp hp=>by obtain⟨x,_,rfl⟩:=vO hp;exact B1 _
include ho in
theorem D4 (day:Int):(cH aa ae day).length<=60:=by unfold cH;rw[vI];exact vR (vM _ _) ho
include hl in
theorem Pk (day:Int):∀p∈cH aa ae day,p.2.2.length<=100:=λp hp=>by obtain⟨x,_,rfl⟩:=vO hp;exact vR (sv hl ae x) O9
include g hl hn ho
end
def Fe (aa:LD)(ae:Int)(n:Nat):List Bs:=match aa[n]? with
 |some r=>cG aa ae (r,n)
 |none=>[]
inductive Lk (S:List Nat)(rs:Nat->List Bs):List Nat->Int->Prop
 |one (n:Nat) (b:Bs) (l:List Bs) (hS:n∈S) (h:(rs n).filter (ce S)=b::l) (ho:b.1.isSome=true):Lk S rs [n] b.2
 |more (n m:Nat) (ns:List Nat) (c:Int) (b:Bs) (l:List Bs) (hS:n∈S) (h:(rs n).filter (ce S)=b::l) (ho:b.1=none) (hm:b.2=(m:Int)) (k:Lk S rs (m::ns) c):Lk S rs (n::m::ns) c
def Kf (K:KL){x y:D×Nat}(hy:y∈K)(h:bv y x=true):(K.filter λz=>bv z y).length<(K.filter λz=>bv z x).length:=by
 have M:∀z∈K,bv z y=true->bv z x=true:=λz _ hz=>by
  unfold bv at *;lia
 have e:K.filter (λz=>bv z y)=(K.filter λz=>bv z x).filter λz=>bv z y:=by
  rw[filter_filter];refine filter_congr λz hz=>?_;cases k:bv z y with
  |false=>rfl
  |true=>rw[M z hz k];rfl
 rw[e];refine Nat.lt_of_le_of_ne (vM _ _) λz=>?_;have hm:y∈(K.filter λz=>bv z x):=mem_filter.mpr ⟨hy,h⟩;have:=List.length_filter_eq_length_iff.mp z y hm;simp_all[bv]
section
variable {aa:LD}{ae:Int}
def Kg {day:Int}{n:Nat}(h:n∈aJ aa ae day):∃r,aa[n]? = some r/\(r,n)∈ag aa ae/\kindOf r∈aS/\(n,Lm r,cG aa ae (r,n))∈cH aa ae day:=by
 rcases fP _ _ _ h with z|z
 .cases z
 .obtain⟨p,hp,rfl⟩:=vO z;obtain⟨x,hx,rfl⟩:=vO hp;obtain⟨h1,h2⟩:=vN hx;rw[vC]at h2;have hk:=(vN ((a9 _ _).mem_iff.mp h1)).1;exact⟨x.1,aB hk,hk,xy h2.1,uS ⟨x,hx,rr⟩⟩
theorem Kh {S T:LN}(h:∀m∈S,m∈T)(b:Bs)(k:ce S b=true):ce T b=true:=by
 unfold ce at k |-;rw[Bool.or_eq_true]at k |-;grind
def NF (h:m∈S):m∈bJ S p:=by
 grind[bJ]
theorem xj:∀(q:List (Nat×List Bs))(S:LN),m∈S->m∈q.foldl bJ S
 |[],_,h=>h
 |_::q,_,h=>xj q _ (NF h)
theorem sy:∀(l:List (Nat×List Bs))(S:LN)(n:Nat),n∈l.foldl bJ S->n∈S\/∃p∈l,p.1=n/\p.2.any (ce (l.foldl bJ S))=true
 |[],S,n,h=>.inl h
 |p::l,S,n,h=>by
  rcases sy l _ n h with z|⟨M,hp,e,k⟩
  .by_cases hs:n∈S
   .exact .inl hs
   grind[bJ,Kh,xj]
  .exact .inr ⟨M,mZ _ hp,e,k⟩
def sA {r:D}{n:Nat}(g:∀r∈aa,bB r)(M:aa[n]? = some r){b:Bs}(hb:b∈cG aa ae (r,n))(e:b.1=none):∃(m:Nat)(q:D),b.2=(m:Int)/\aa[m]? = some q/\(q,m)∈ag aa ae/\bv (q,m) (r,n)=true:=by
 unfold cG mI at hb;split at hb
 .rename_i O;obtain⟨a,d,U,m,er⟩:=sj (g _ (vL M)) O;have en:dz 2 r=m:=by rw[er];rfl
  simp only[en]at hb;split at hb
  .rename_i hv;rw[mem_singleton]at hb;subst hb;unfold jP at hv;split at hv
   .cases hv
   .rename_i q hq;rw[vC,vC]at hv;refine⟨m,q,rr,hq,mem_filter.mpr ⟨List.mk_mem_zipIdx_iff_getElem?.mpr hq,hv.1.1⟩,hv.2⟩
  simp_all
 .have hb:=(a9 _ _).mem_iff.mp hb;rcases mem_append.mp hb with z|z
  .obtain⟨v,_,rfl⟩:=vO z;cases e
  .obtain⟨y,hy,rfl⟩:=vO z;obtain⟨h1,h2⟩:=vN hy;unfold JV at h2;rw[vC]at h2;exact⟨y.2,y.1,rr,(zt g h1).1,(vN (vN h1).1).1,h2.1⟩
def Ki {day:Int}{n:Nat}{r:D}(O:aa[n]? = some r)(hn:n∈aJ aa ae day):∃b l,(cG aa ae (r,n)).filter (ce (aJ aa ae day))=b::l:=by
 rcases sy _ _ _ hn with z|⟨p,hp,e,hb⟩
 .cases z
 .obtain⟨x,hx,rfl⟩:=vO hp;have hx':=aB (vN ((a9 _ _).mem_iff.mp (vN hx).1)).1;have M:x.2=n:=e;rw[M,O]at hx';have ex:x=(r,n):=by rw[<-M,vK hx']
  subst ex;obtain⟨b,h1,h2⟩:=any_eq_true.mp hb;have hm:b∈(cG _ _ _).filter (ce (aJ _ _ _)):=mem_filter.mpr ⟨h1,h2⟩;cases hq:(cG _ _ _).filter _ with
  |nil=>rw[hq]at hm;cases hm
  |cons b l=>exact⟨b,l,rr⟩
def Kj (g:∀r∈aa,bB r)(day:Int):∀(k n:Nat)(r:D),aa[n]? = some r->n∈aJ aa ae day->((ag aa ae).filter λz=>bv z (r,n)).length<k->∃ns c,Lk (aJ aa ae day) (Fe aa ae) (n::ns) c/\ns.length<k:=by
 intro k;induction k with
 |zero=>lia
 |succ k d=>
  intro n r O hn hk;obtain⟨b,l,hq⟩:=Ki O hn;have er:Fe aa ae n=cG aa ae (r,n):=by unfold Fe;rw[O]
  have hm:b∈(cG aa ae (r,n)).filter (ce (aJ aa ae day)):=by rw[hq];exact mX
  obtain⟨h1,h2⟩:=vN hm;cases M:b.1 with
  |some o=>exact⟨[],b.2,.one n b l hn (by rw[er];exact hq) (by rw[M];rfl),Nat.succ_pos _⟩
  |none=>
   obtain⟨m,q,e,e2,h3,h4⟩:=sA g O h1 M;have U:m∈aJ aa ae day:=by
    unfold ce at h2;rw[M]at h2;obtain⟨f,a,h⟩:=any_eq_true.mp (by simpa using h2:(aJ aa ae day).any (λn=>decide _)=true);have:=xy h;rw[show m=f by lia];exact a
   have:=Kf _ h3 h4;obtain⟨ns,c,hl,i⟩:=d m q e2 U N9;exact⟨m::ns,c,.more n m ns c b l hn (by rw[er];exact hq) M e hl,by rw[vE];lia⟩
end
def NG (w:Str)(b:Bs):eA (sV w b) (.int 0)=sS (if b.1.isSome=true then "office" else w):=by rcases b with⟨_|o,n⟩<;>simp[sV,xC]
def Kk (hw:decide (w=("office" : Str))=false)(R:List Bs)(hR:R.length<=100)(S:LN){b:Bs}{l:List Bs}(h:R.filter (ce S)=b::l):gp [.lst (R.map (sV w)),.dk (S.map nK) (S.map Bz)]=sF (sV w b):=by
 have hc:=di (fi:=dn (am 0)) (nT:=1) (cap:=[1]) (tg:=f7 0) (c:=bx (fA _ (fV 0 (fV 1 av)))) (fe:=am 0) (ρ:=[sL _,sF _]) R (sV w) _ _ rr N9 λb _=>⟨[some _,sF _],rr,cj (a0 _ rr (z9 hw S b)),λ_=>⟨false,rr⟩⟩;rw[h]at hc;exact ah rr (ak (eI hc rr (by simp[xC])))
theorem zJ:∀(l:List Rs),(l.map (·.1)).Nodup->∀p∈l,bC (l.map λp=>nK p.1) (l.map su) (nK p.1)=some (su p)
 |q::l,h,p,hp=>by
  rw[uY,nodup_cons]at h;show(if nK _=nK _ then some _ else bC _ _ _)=_;rcases vP hp with rfl|hp
  .rw[if_pos rr]
  .rw[if_neg λe=>?_,zJ l h.2 p hp];have z:q.1=p.1:=by
    have:=Sum.inl.inj (show(Sum.inl _:cZ)=Sum.inl _ from e);lia
   exact h.1 (uS ⟨p,hp,z.symm⟩)
def Lk.first {S:LN}{rs:Nat->List Bs}(h:Lk S rs (n::ns) c):n∈S/\∃b l,(rs n).filter (ce S)=b::l:=by
 cases h with
 |one _ b l hS h _=>exact⟨hS,b,l,h⟩
 |more _ _ _ _ b l hS h _ _ _=>exact⟨hS,b,l,h⟩
section
variable {aa:LD}{ae day:Int}{l:List Rs}{S:LN}{rs:Nat->List Bs}(n0:Nat)
abbrev cE (aa:LD)(ae day:Int)(l:List Rs)(S:LN)(n0:Nat)(told:LD)(b:D):DL.Env:=[sT aa,sI ae,sI day,sI n0,sF (.dk (l.map λp=>nK p.1) (l.map su)),sF (.dk (S.map nK) (S.map Bz)),lT told,some (b,false)]
def Yg (l:List Rs)(S:LN)(rs:Nat->List Bs):Prop:=∀n∈S,∃w,decide (w=("office" : Str))=false/\bC (l.map λp=>nK p.1) (l.map su) (nK n)=some (.lst ((rs n).map (sV w)))/\(rs n).length<=100
theorem D5 (F:Yg l S rs){m:Nat}(hm:m∈S){b:Bs}{tl:List Bs}(h:(rs m).filter (ce S)=b::tl){ρ:DL.Env}{f:FE}(h4:ρ[4]? = some (sF (.dk (l.map λp=>nK p.1) (l.map su))))(h5:ρ[5]? = some (sF (.dk (S.map nK) (S.map Bz))))(hf:f ρ=sI (m:Int)):
  ∃w,decide (w=("office" : Str))=false/\fA gp (ai (f2 XW (am 4) f) (fV 5 av)) ρ=sF (sV w b):=by
 obtain⟨w,hw,hl,hz⟩:=F m hm;refine⟨w,hw,a0 _ (a6 (b:=false) (aX (.dk (l.map λp=>nK p.1) (l.map su)) _ (by simp[h4]) hf ?_) (by simp[h5])) (Kk hw _ hz S h)⟩;simp_all[nK]
theorem Ff (F:Yg l S rs){T:LN}{c:Int}(k:Lk S rs T c):∀(n:Nat)(ns:LN),T=n::ns->∀(pre:LD)(w:Str)(b:Bs)(tl:List Bs)(fuel:Nat),pre.length+ns.length<=1000->decide (w=("office" : Str))=false->(rs n).filter (ce S)=b::tl->ns.length<fuel ->
  ∃O b',fT (bx (f2 wg (gR 7 0) (fS "office"))) zc fuel (cE aa ae day l S n0 (pre++[.int n]) (sV w b))=some (.nx (cE aa ae day l S n0 (pre++(n::ns).map λ(m:Nat)=>.int (m:Int)) (sV O b')))/\b'.1.isSome=true/\b'.2=c:=by
 have cond:∀(told:LD)(w:Str)(b:Bs),decide (w=("office" : Str))=false->bx (f2 wg (gR 7 0) (fS "office")) (cE aa ae day l S n0 told _)=some (!b.1.isSome):=λtold w b hw=>by
  refine(By (aX _ _ rr rr (NG w b))).trans ?_;lia
 induction k with
 |one n M e hS h ho=>
  rintro f ns ⟨⟩ pre w b tl fuel hp hw hb hf;rw[h]at hb;obtain⟨rfl,rfl⟩:=List.cons.inj hb;obtain⟨fuel,rfl⟩:∃k,fuel=k+1:=⟨fuel - 1,N9⟩;refine⟨w,M,?_,ho,rr⟩;rw[fT,cond _ _ _ hw,ho];rfl
 |more n m g c M e hS h ho hm k i=>
  rintro f ns ⟨⟩ pre w b tl fuel hp hw hb hf;rw[h]at hb;obtain⟨rfl,rfl⟩:=List.cons.inj hb;obtain⟨fuel,rfl⟩:∃k,fuel=k+1:=⟨fuel - 1,N9⟩;obtain⟨U,b2,l2,h2⟩:=k.first;rw[vE]at hp hf;have d:∀told,gR 7 1 (cE aa ae day l S n0 told (sV w M))=sF _:=λtold=>aX _ (.int 1) rr rr (by
   obtain⟨o,z⟩:=M;cases (show o=none from ho)
   cases (show z=(m:Int)from hm)
   rfl)
  obtain⟨j,a,e2⟩:=D5 F U h2 rr rr (d _);obtain⟨O,b',p,q,r⟩:=i m g rr (pre++[.int n]) j b2 l2 fuel (by rw[uZ,length_singleton];lia) a h2 N9;refine⟨O,b',?_,q,r⟩;have s:zc _=some (.nx (cE aa ae day l S n0 (pre++[.int n]++[.int _]) _)):=Pe rr (d _) rr (bq (by rw[uZ,length_singleton];lia)) (yW e2 (z4 _ _));rw[fT,cond _ _ _ hw,ho];rw[s];dsimp only;rw[p];simp
end
section
variable {aa:LD}(g:∀r∈aa,bB r) (hl:aa.length<=30) (ae:Int) (hn:((bd (ag aa ae)).map (ao 0)).Nodup) (ho:(bA (ag aa ae)).length<=60)
include hl in
theorem NH (day:Int):Yg (cH aa ae day) (aJ aa ae day) (Fe aa ae):=λn hm=>by
 obtain⟨r,M,_,_,hp⟩:=Kg hm;have e:Fe aa ae n=cG aa ae (r,n):=by unfold Fe;rw[M]
 rw[e];exact⟨Lm r,B1 r,zJ _ (iB ae day) _ hp,vR (sv hl ae (r,n)) O9⟩
include g hl hn ho
theorem Fg (day:Int)(n:Nat):pF [.tup aa,.int ae,.int day]=sF (.dk ((cH aa ae day).map λp=>nK p.1) ((cH aa ae day).map su))/\pH [.dk ((cH aa ae day).map λp=>nK p.1) ((cH aa ae day).map su)]=sF (.dk ((aJ aa ae day).map nK) ((aJ aa ae day).map Bz)):=by
 constructor
 .rw[sn g hl _ hn ho _];unfold cH;rw[uP,uP];rfl
 .rw[mJ _ (D4 _ ho _) (Pj _ _) (Pk hl _ _) (iB _ _)];have:bN ((cH aa ae day).map sW)=aJ aa ae day:=by
   unfold cH aJ;rw[uP];rfl
  rw[this]
theorem Fh (day:Int){n:Nat}{ns:LN}{c:Int}(k:Lk (aJ aa ae day) (Fe aa ae) (n::ns) c)(s:ns.length<=100):De [.tup aa,.int ae,.int day,.int (n:Int)]=lT (((n::ns).map (λ(m:Nat)=>D.int (m:Int))++[D.int c]).reverse):=by
 obtain⟨e,e2⟩:=Fg g hl ae hn ho day n;obtain⟨hS,b,tl,hf⟩:=k.first;have F:=NH (aa:=aa) hl ae day;generalize cH aa ae day=l at *;generalize aJ aa ae day=S at *;obtain⟨w,hw,h⟩:=D5 F hS hf (ρ:=[sT aa,sI ae,sI day,sI (n:Int),sF _,sF _,lT [.int (n:Int)],none]) (f:=am 3) rr rr rr;obtain⟨a,b',i,M,hc⟩:=Ff (aa:=aa) (ae:=ae) (day:=day) n F k n ns rr [] w b tl 1000 s9 hw hf N9;have O:gR 7 2 (cE aa ae day l S n ([]++(n::ns).map λ(m:Nat)=>D.int (m:Int)) (sV a b'))=sI c:=aX (sV a b') (.int 2) rr rr (by
  obtain⟨_|o,z⟩:=b'
  .cases M
  .cases (show z=c from hc)
   rfl)
 have U:f2 wF (am 3) (am 5) [sT aa,sI ae,sI day,sI (n:Int),sF (.dk (l.map λp=>nK p.1) (l.map su)),sF (.dk (S.map nK) (S.map Bz)),none,none]=sO false:=by
  show some (D.bl _,false)=_;rw[zH,ou hS];rfl
 have j:(cx _ (cx (v0 6 (gR 7 2)) (xP (f1 Vx (am 6))))) _=some _:=
  cu i (Pe (d:=.int c) (b:=false) rr O rr (bq s9) (ak rr))
 have q:(cx (dO 6 (fA dJ (fV 3 av))) (cx (dO 7 _) _)) [sT aa,sI ae,sI day,sI (n:Int),sF _,sF _,none,none]=some _:=
  bE (a0 [.int (n:Int)] rr (cw _ H9)) rr (wN h (z4 _ _) j)
 refine ah rr (Im (b:=false) (a0 _ rr e) (by simp[aO]) (.inl rr) ?_);refine(show cx _ _ _=_ from Im (b:=false) (a0 [_] rr e2) (by simp[aO]) (.inl rr) ?_);exact aq (cj (x:=false) U) q
end
def WO (n:Nat)(p:Rs):Bool:=!decide (p.1=n)
def fF (n:Nat)(l:List Rs):LN:=bN ((l.filter (WO n)).map sW)
def mK (n:Nat)(l:List Rs):LN:=(bN (l.map sW)).filter λm=>!decide (m∈fF n l)
theorem zK:∀l:List Rs,eG (l.map VC)=some (l.map λp=>(nK p.1,su p))
 |[]=>rr
 |p::l=>by
  show((ji _).bind _)=_;rw[zK l];rfl
def Fi (l:List Rs)(hn:(l.map (·.1)).Nodup):ki [.lst (l.map VC)]=sF (.dk (l.map λp=>nK p.1) (l.map su)):=by
 show(eG _).map _=_;rw[zK,Option.map_some];have e:=rY (l.map λp=>(nK _,su p)) ([],[]) (by rw[uP];exact Ke hn);unfold bD;rw[e];simp
def NI (a b:Nat):wg (.int (a:Int)) (.int (b:Int))=sO (!decide (a=b)):=by
 by_cases h:a=b
 .subst h;simp
 .have:¬(a:Int)=b:=N9
  simp[h,this]
section
variable {aa:LD}(g:∀r∈aa,bB r) (hl:aa.length<=30) (ae:Int) (hn:((bd (ag aa ae)).map (ao 0)).Nodup) (ho:(bA (ag aa ae)).length<=60)
include g hl hn ho
theorem sC (day:Int)(n:Nat):nQ [.tup aa,.int ae,.int day,.int (n:Int)]=lT (aM (mK n (cH aa ae day))):=by
 have a:pF [.tup aa,.int ae,.int day]=sF (.dk ((cH aa ae day).map λp=>nK p.1) ((cH aa ae day).map su)):=by
  rw[sn g hl ae hn ho day];unfold cH;rw[uP,uP];rfl
 have U:=D4 ae ho day;have hw:=Pj (aa:=aa) ae day;have hb:=Pk hl ae day;have M:=iB (aa:=aa) ae day;generalize cH aa ae day=l at a U hw hb M;let A:D:=.dk (l.map λp=>nK p.1) (l.map su);let b:=[sT aa,sI ae,sI day,sI n,sF A,none];have Ai:iQ (l.map λp=>nK p.1) (l.map su)=l.map VC:=by
  unfold iQ;rw[zip_map',uP];rfl
 have hc:=di (fi:=wJ (am 4)) (nT:=2) (cap:=[3]) (tg:=FD [0,1]) (c:=bx (f2 wg (am 0) (am 2))) (fe:=fA bX (fV 0 (fV 1 av))) (ρ:=b) l VC _ VC (by show some _=_;rw[Ai]) N9 λp _=>⟨[sF _,some _,sF _],rr,cj (aX _ _ rr rr (NI _ _)),λ_=>⟨false,a0 _ rr (aY _ H9)⟩⟩;have d:(l.filter (WO n)).length<=60:=vR (vM _ _) U;have O:((l.filter (WO n)).map (·.1)).Nodup:=List.Nodup.sublist (List.Sublist.map _ filter_sublist) M;have e2:=mJ _ d (λp hp=>hw p (vN hp).1) (λp hp=>hb p (vN hp).1) O;have e:=mJ l U hw hb M;let f:=[sT aa,sI ae,sI day,sI n,sF A,sF (.dk ((fF n l).map nK) ((fF n l).map Bz))];have h:(bN (l.map sW)).length<=60:=vR (B4 _) (by rw[vI];exact U);have i:=di (fi:=Bd (fA pH (fV 4 av))) (nT:=1) (cap:=[5]) (tg:=f7 0) (c:=bx (f2 wF (am 0) (am 1))) (fe:=am 0) (ρ:=f) (bN _) _ _ _ (by
   show(fA _ _ _).bind _=_;rw[a0 [A] rr e];show some _=_;rw[uP];rfl) N9 λm _=>⟨[sF _,sF _],rr,cj (aX (.int m) _ rr rr (by show some (D.bl _,false)=_;rw[zH])),λ_=>⟨false,rr⟩⟩
 have j:(mK n l).length<=60:=vR (vM _ _) h;refine ah rr (Im (a0 _ rr a) (by simp[A]) (.inl rr) (Im (a0 _ (a6 (a0 _ (a6 hc rr) (Fi _ O)) rr) e2) (by simp[aO]) (.inl rr) (ak (a0 _ (a6 i rr) (Fd _ j)))))
end
def Kl (c:D):Prop:=aD c=false/\mH c=false/\kindOf c ≠ "death"/\kindOf c∉rR/\∀ws p d,(∀w∈ws,cb w=true)->told ws p d c=false
def om {a:Int}{k:Str}{q:LD}(h:k = "call" \/ k = "paper"):Kl (row a k q):=by
 refine⟨?_,?_,?_,?_,λws p d hw=>?_⟩
 .show decide (k = "root")=false;rcases h with rfl|rfl<;>decide +kernel
 .show decide (k = "leave")=false;rcases h with rfl|rfl<;>decide +kernel
 .show ¬k = "death";rcases h with rfl|rfl<;>decide +kernel
 .show ¬k∈rR;rcases h with rfl|rfl<;>decide +kernel
 .show(decide _ && rq p d q)=false;rw[xx λz=>?_]
  .rfl
  .have:=hw k z;rcases h with rfl|rfl<;>exact cN this
def fQ (aa:LD)(c:D){ae:Int}(h:aG c<=ae):ag (aa++[c]) ae=ag aa ae++[(c,aa.length)]:=by
 unfold ag;rw[List.zipIdx_append];simp[h]
section
variable {K:KL}{c:D}{N:Nat}
def dH {f:D×Nat->Bool}(h:f (c,N)=false):(K++[(c,N)]).filter f=K.filter f:=by simp[h]
variable (q:Kl c)
include q
theorem oq (p:Str)(d:Int):jN (K++[(c,N)]) p d=jN K p d:=by unfold jN;rw[dH (q.2.2.2.2 _ _ _ dZ)]
theorem zL (p:Str)(d:Int):zh (K++[(c,N)]) p d=zh K p d:=by unfold zh;rw[dH (q.2.2.2.2 _ _ _ jL)]
theorem Fj (r:D):gB (K++[(c,N)]) r=gB K r:=by unfold gB;rw[oq q,zL q]
theorem uI:bd (K++[(c,N)])=bd K:=by unfold bd;rw[dH q.1]
theorem Km:cF (K++[(c,N)])=cF K:=by
 have h1:∀M x,bH (K++[(c,N)]) M x=bH K M x:=λM x=>by
  unfold bH fB rO kZ;rw[dH (q.2.2.2.2 _ _ _ dZ),dH q.1,Fj q]
 have h2:∀M hk hv p d n,px (K++[(c,N)]) M hk hv p d n=px K M hk hv p d n:=λM hk hv p d n=>by
  unfold px;unfold cK;simp [oq q]
 funext st x;unfold cF;rw[h1,h2]
theorem D6 (O:(K.map (·.2)).Nodup)(M:∀x∈K,x.2≠N):(bA (K++[(c,N)])).filter (λx=>!decide (x.2=N))=bA K:=by
 have nd:((K++[(c,N)]).map (·.2)).Nodup:=by
  rw[uW,nodup_append];refine⟨O,H9,λa ha b hb=>?_⟩;obtain⟨x,hx,rfl⟩:=vO ha;rw[List.map_singleton,mem_singleton]at hb;subst hb;exact M x hx
 have e:=B3 _ nd (λx=>!decide (x.2=N) && !aD _) λx h=>by
  rw[vC]at h;simpa using h.2
 rw[dH H9]at e;have U:K.filter (λx=>!decide (x.2=N) && !aD x.1)=K.filter λx=>!aD x.1:=filter_congr λx hx=>by simp[M x hx]
 have e2:(bA _).filter (λx=>!decide (x.2=N) && !aD _)=(bA (K++[(c,N)])).filter _:=filter_congr λx hx=>by
  have:=(vN ((a9 _ _).mem_iff.mp hx)).2;rw[this,Bool.and_true]
 rw[U,e2]at e;exact e.symm
omit q in
theorem lJ {α M:Type}(f:M->α->M)(p:α->Bool):∀(l:List α)(s:M),(∀x∈l,p x=false->∀s,f s x=s)->l.foldl f s=(l.filter p).foldl f s
 |[],_,_=>rr
 |x::l,s,h=>by
  rw[filter_cons];cases e:p x with
  |true=>exact lJ f p l _ λy hy=>h y (mZ _ hy)
  |false=>
   rw[foldl_cons,h x mX e];exact lJ f p l s λy hy=>h y (mZ _ hy)
theorem B5 (O:(K.map (·.2)).Nodup)(M:∀x∈K,x.2≠N):aE (K++[(c,N)])=aE K:=by
 unfold aE la;rw[Km q,lJ _ _ _ _ λx hx e st=>?_,D6 q O M];have hm:=(vN ((a9 _ _).mem_iff.mp hx)).1;have U:=by simpa using e
 rcases mem_append.mp hm with h|h
 .exact absurd U (M x h)
 .rw[mem_singleton]at h;subst h;unfold cF bH;rw[if_neg q.2.2.1,if_neg q.2.2.2.1];rfl
end
section
variable {aa:LD}{ae:Int}{c:D}(q:Kl c) (hc:aG c<=ae)
theorem Kn (h:x∈ag aa ae):x.2<aa.length:=(vV (aB h)).1
theorem zM:∀x∈ag aa ae,x.2≠aa.length:=λ_ h=>vS (Kn h)
include q hc
theorem zN (r:D):c9 (aa++[c]) ae r=c9 aa ae r:=by
 unfold c9;rw[xa,JJ,xa,JJ,fQ _ c hc,oq q,zL q]
theorem xl:aE (ag (aa++[c]) ae)=aE (ag aa ae):=by rw[fQ _ c hc];exact B5 q (cc _ _) zM
theorem NJ (x r:D):gE (ag (aa++[c]) ae) x r=gE (ag aa ae) x r:=by
 unfold gE;rw[xl q hc,fQ _ c hc,uI q]
theorem D7 (M:Nat)(r:D)(d:Int)(x:D):iA (aa++[c]) ae M r d x=iA aa ae M r d x:=by unfold iA;rw[zN q hc,NJ q hc]
theorem Fk (M:Nat){r:D}(d:Int)(O:aG r<=ae)(U:kindOf r∈aS):(lH (aa++[c]) ae M r d).isEmpty=((lH aa ae M r d).isEmpty && !iA aa ae M r d c):=by
 unfold lH;rw[if_pos ⟨O,U⟩,if_pos ⟨O,U⟩,fQ _ c hc,List.filter_append];have e:(ag _ ae).filter _=(ag aa _).filter λx=>iA aa _ M r d x.1:=filter_congr λx _=>D7 q hc _ _ _ _;rw[e,filter_cons,D7 q hc];cases iA _ _ M r d c<;>cases (ag _ _).filter _<;>rfl
theorem NK (d:Int){x:D×Nat}(M:aG x.1<=ae)(O:kindOf x.1∈aS):pz (aa++[c]) ae d x=(pz aa ae d x && !iA aa ae x.2 x.1 d c):=by
 unfold pz;rw[zN q hc,Fk q hc _ _ M O];simp [Bool.and_assoc]
theorem NL (cs:List Cl)(r:D)(M:Nat):Bv (ag (aa++[c]) ae) cs r M=Bv (ag aa ae) cs r M:=by
 unfold Bv zv zr;rw[fQ _ c hc,uI q,dH q.2.1]
theorem Ko {x:D×Nat}(h:kindOf c∈eZ->bv (c,aa.length) x=false):cG (aa++[c]) ae x=cG aa ae x:=by
 unfold cG mI;rw[xl q hc,NL q hc];have e:∀m,jP (aa++[c]) _ _ _ m=jP aa ae _ _ m:=λm=>by
  unfold jP;by_cases hm:m<aa.length
  .rw[getElem?_append_left hm]
  .rw[show aa[m]? = none from getElem?_eq_none N9];by_cases M:m=aa.length
   .subst M;rw[getElem?_append_right (vT _),Nat.sub_self];show((decide _ && decide _) && bv _ _)=false;by_cases hp:kindOf c∈eZ
    .rw[show bv _ _=false from h hp,Bool.and_false]
    .rw[xx hp,Bool.and_false,Bool.false_and]
   .rw[show(aa++[c])[m]? = none from getElem?_eq_none (by rw[uZ,length_singleton];lia)]
 rw[e]
theorem NM (d:Int):(fH (aa++[c]) ae d (bA (ag (aa++[c]) ae))).filter (λx=>!decide (x.2=aa.length))=(fH aa ae d (bA (ag aa ae))).filter λx=>!iA aa ae x.2 x.1 d c:=by
 unfold fH;rw[<-D6 q (cc aa _) zM,<-fQ _ c hc];rw[filter_filter,filter_filter,filter_filter];refine filter_congr λx hx=>?_;cases hn:decide (x.2=aa.length) with
 |true=>simp
 |false=>
  have hm:=(vN ((a9 _ _).mem_iff.mp hx)).1;have hk:=xy (vN hm).2;by_cases M:kindOf x.1∈aS
  .rw[NK q hc d hk M,ou M];cases pz _ _ d x<;>cases iA _ _ _ _ d c<;>rfl
  .rw[xx M];simp
end
section
variable {aa:LD}{ae:Int}
def mL {d:Int}{x:D×Nat}(h:x∈fH aa ae d (bA (ag aa ae))):x∈ag aa ae/\kindOf x.1∈aS/\aA x.1<=d:=by
 obtain⟨h1,h2⟩:=vN h;rw[vC]at h2;unfold pz at h2;rw[vC,vC]at h2;exact⟨(vN ((a9 _ _).mem_iff.mp h1)).1,xy h2.1,xy h2.2.1.2⟩
def NN {c:D}{x:D×Nat}(h:x∈ag (aa++[c]) ae)(e:x.2=aa.length):x.1=c:=by
 have:=aB h;rw[e,getElem?_append_right (vT _),Nat.sub_self]at this;exact(vK this).symm
variable {day:Int}{jk:Str}{n:Nat}
abbrev bU (day:Int)(jk:Str)(n:Nat):D:=row day ("call" : Str) [.int day,.str jk,.int n]
def Kp (hd:day<=ae)(d:Int):fH (aa++[bU day jk n]) ae d (bA (ag (aa++[bU day jk n]) ae))=(fH aa ae d (bA (ag aa ae))).filter λx=>!iA aa ae x.2 x.1 d (bU day jk n):=by
 rw[<-NM (om (.inl rr)) hd d];refine(filter_eq_self.mpr λx hx=>?_).symm;obtain⟨h1,h2,_⟩:=mL hx;cases e:decide (x.2=aa.length) with
 |false=>rfl
 |true=>
  rw[NN h1 (xy e)]at h2;exact absurd h2 (show ¬("call" : Str)∈aS by decide +kernel)
def lK (hd:day<=ae)(d:Int):aJ (aa++[bU day jk n]) ae d=bN (((fH aa ae d (bA (ag aa ae))).filter λx=>!iA aa ae x.2 x.1 d (bU day jk n)).map λx=>(x.2,cG aa ae x)):=by
 unfold aJ;rw[Kp hd];congr 1;refine List.map_congr_left λx _=>?_;rw[Ko (om (.inl rr)) hd λh=>absurd h (show ¬("call" : Str)∈eZ by decide +kernel)]
def zO (hd:day<=ae){d:Int}(h:d<day):aJ (aa++[bU day jk n]) ae d=aJ aa ae d:=by
 rw[lK hd,filter_eq_self.mpr _]
 .rfl
 .have:decide (aA (bU _ jk n)<=d)=false:=xx (by show ¬day<=d;lia);unfold iA;rw[this];simp
def Kq {r:D}(M:aa[n]? = some r){d:Int}{x:D×Nat}(hx:aa[x.2]? = some x.1):iA aa ae x.2 x.1 d (bU day jk n)=(decide (x.2=n) && (decide (day<=d) && (c9 aa ae (bU day jk n) && gE (ag aa ae) (bU day jk n) r))):=by
 unfold iA;by_cases e:x.2=n
 .rw[ou e,ou (show dz 2 _=(x.2:Int) by rw[e];rfl)];rw[e,M]at hx;rw[<-vK hx];rfl
 .rw[xx e,xx (show ¬dz 2 _=(x.2:Int)from λz=>e (by have O:(n:Int)=x.2:=z;lia))];rfl
def B6 (hd:day<=ae){d:Int}(M:day<=d){r:D}(O:aa[n]? = some r)(hs:(c9 aa ae (bU day jk n) && gE (ag aa ae) (bU day jk n) r)=true):aJ (aa++[bU day jk n]) ae d=fF n (cH aa ae d):=by
 rw[lK hd];unfold fF cH;rw[filter_map,uP];congr 2;refine filter_congr λx hx=>?_;rw[Kq O (aB (mL hx).1),hs,ou M];show(!(decide _ && true)) = !decide _;rw[Bool.and_true]
def Fl (hd:day<=ae)(d:Int){r:D}(M:aa[n]? = some r)(hs:(c9 aa ae (bU day jk n) && gE (ag aa ae) (bU day jk n) r)=false):aJ (aa++[bU day jk n]) ae d=aJ aa ae d:=by
 rw[lK hd,filter_eq_self.mpr λx hx=>?_]
 .rfl
 .rw[Kq M (aB (mL hx).1),hs,Bool.and_false,Bool.and_false];rfl
end
def zP (h:m∈S):m∈bJ S p:=by
 unfold bJ;split
 .exact mem_append_left _ h
 .exact h
def Fm {S T:LN}(h:∀m∈S,m∈T)(b:Bs)(k:ce S b=true):ce T b=true:=by
 unfold ce at k |-;rw[Bool.or_eq_true,any_eq_true]at k |-;exact k.imp id λ⟨n,hn,e⟩=>⟨n,h n hn,e⟩
def Fo {S T:LN}(h:∀m∈S,m∈T)(p:Nat×List Bs):∀m∈bJ S p,m∈bJ T p:=by
 intro m hm;unfold bJ at hm;split at hm
 .rename_i hb;obtain⟨b,h1,h2⟩:=any_eq_true.mp hb;unfold bJ;rw[if_pos (any_eq_true.mpr ⟨b,h1,Fm h b h2⟩)];exact(mem_append.mp hm).elim (λz=>mem_append_left _ (h m z)) λz=>mY _ z
 .exact zP (h m hm)
def Fp {O l:List (Nat×List Bs)}(s:O.Sublist l):∀ {S T:LN},(∀m∈S,m∈T)->∀m∈O.foldl bJ S,m∈l.foldl bJ T:=by
 induction s with
 |slnil=>exact λh=>h
 |cons a _ M=>exact λh=>M λm hm=>zP (h m hm)
 |cons_cons a _ M=>exact λh=>M (Fo h a)
def NO (h:S.Nodup)(n:p.1∉S):(bJ S p).Nodup:=by
 unfold bJ;split
 .rw[nodup_append];refine⟨h,H9,λa ha b hb=>?_⟩;rw[mem_singleton]at hb;subst hb;exact λz=>n (z ▸ ha)
 .exact h
theorem xm:∀(l:List (Nat×List Bs))(S:LN),S.Nodup->(l.map (·.1)).Nodup->(∀m∈S,m∉l.map (·.1))->(l.foldl bJ S).Nodup
 |[],_,h,_,_=>h
 |p::l,S,h,hl,hd=>by
  rw[uY,nodup_cons]at hl;refine xm l _ (NO h λz=>hd _ z H9) hl.2 λm hm z=>?_;rcases sr hm with q|q
  .exact hd m q (mZ _ z)
  .exact hl.1 (q ▸ z)
def Fs {S T:LN}(p:S.Perm T):aM S=aM T:=by
 rw[je,je];congr 1;exact(dS _ (λx _ y _ e=>by lia) ((a9 _ _).trans p) (bR _ _))
def Kr (l:List Rs)(h:(l.map (·.1)).Nodup)(n:Nat):aM ((bN (l.map sW)).filter λm=>!decide (m∈mK n l))=aM (fF n l):=by
 have nd:∀l:List Rs,(l.map _).Nodup->(bN (l.map sW)).Nodup:=λl h=>xm _ _ nodup_nil (by rw[uP];exact h) λm hm=>by cases hm
 have n1:=nd l h;have n2:(fF n l).Nodup:=nd _ (List.Nodup.sublist (List.Sublist.map _ filter_sublist) h);have sub:∀m∈fF n l,m∈bN _:=Fp (List.Sublist.map _ filter_sublist) λ_ h=>h;refine Fs ((List.perm_ext_iff_of_nodup (n1.sublist filter_sublist) n2).mpr λm=>?_);unfold mK;simp only[mem_filter,Bool.not_eq_true',decide_eq_false_iff_not,not_and,decide_eq_true_eq];exact⟨λ⟨h1,h2⟩=>Decidable.byContradiction λz=>h2 h1 z,λz=>⟨sub m z,λ_ k=>k z⟩⟩
def Ks (K:KL):(bA K).Pairwise λa b=>bv b a=false:=(bR _ _).imp λ{a b} h=>by
 have:=p7 _ _ _ (wS b a);rw[xx (show ¬bP _<bP _ from h)]at this;exact this
def NP {S:LN}{p:Nat×List Bs}(h:p.2.any (ce S)=true):p.1∈bJ S p:=by
 unfold bJ;rw[if_pos h];exact mY _ (mem_singleton.mpr rr)
section
variable {aa:LD}{ae day:Int}{n:Nat}
def NQ (aa:LD)(ae day:Int)(n:Nat):KL:=(fH aa ae day (bA (ag aa ae))).filter λx=>!decide (x.2=n)
def NR:fF n (cH aa ae day)=((NQ aa ae day n).map λx=>(x.2,cG aa ae x)).foldl bJ []:=by
 unfold fF cH NQ bN;rw[filter_map,uP];rfl
def D8 {o:Nat}(h:o∈aJ aa ae day)(ho:o≠n):∃r,aa[o]? = some r/\(r,o)∈NQ aa ae day n:=by
 rcases fP _ _ _ h with z|z
 .cases z
 .obtain⟨p,hp,rfl⟩:=vO z;obtain⟨x,hx,rfl⟩:=vO hp;exact⟨x.1,aB (mL hx).1,mem_filter.mpr ⟨hx,by simpa using ho⟩⟩
def D9 {r:D}{o:Nat}(hx:(r,o)∈NQ aa ae day n){b:Bs}(hb:b∈cG aa ae (r,o))(h:b.1.isSome=true\/∃(m:Nat)(q:D),b.2=(m:Int)/\aa[m]? = some q/\bv (q,m) (r,o)=true/\m∈fF n (cH aa ae day)):o∈fF n (cH aa ae day):=by
 obtain⟨l1,l2,a⟩:=List.append_of_mem hx;have M:=((Ks (ag aa ae)).sublist (filter_sublist (p:=λx=>decide (kindOf x.1∈aS) && pz aa ae day x))).sublist (filter_sublist (p:=λx:D×Nat=>!decide (x.2=n)));rw[show List.filter _ (List.filter _ _)=l1++(r,o)::l2 from a]at M;have U:=(pairwise_cons.mp (List.pairwise_append.mp M).2.1).1;have O:∀x∈l1++(r,o)::l2,aa[x.2]? = some x.1:=λx hx=>by
  rw[<-a]at hx;exact aB (mL (vN hx).1).1
 rw[NR,a,uW,List.foldl_append,uY,foldl_cons]at h |-;refine xj _ _ ?_;have d:ce ((l1.map λx=>(x.2,cG aa ae x)).foldl bJ []) b=true:=by
  unfold ce;rw[Bool.or_eq_true];rcases h with h|⟨m,q,e,e2,c,hm⟩
  .exact .inl h
  .refine .inr (any_eq_true.mpr ⟨m,?_,ou e.symm⟩);rcases fP _ _ _ hm with z|z
   .rcases sr z with z|z
    .exact z
    .have h1:=O (r,o) (mY _ (mX ..));subst z;rw[e2]at h1;cases h1
     unfold bv at c;simp at c
   .obtain⟨p,hp,rfl⟩:=vO z;obtain⟨x,hx,rfl⟩:=vO hp;have h1:=O x (mY _ (mZ _ hx));have h2:aa[x.2]? = some q:=e2;rw[h1]at h2;have h3:=U x hx;rw[show x=(q,x.2) by rw[<-vK h2]]at h3;rw[show bv (q,x.2) (r,o)=true from c]at h3;cases h3
 exact NP (any_eq_true.mpr ⟨b,hb,d⟩)
def B7 (g:∀r∈aa,bB r){T:LN}{c:Int}(k:Lk (aJ aa ae day) (Fe aa ae) T c):(∀x∈T,x≠n)->∀o ns,T=o::ns->o∈fF n (cH aa ae day):=by
 have rs:∀ {o:Nat}{r:D},aa[o]? = some r->Fe _ _ o=cG _ ae _:=λ{o r} h=>by unfold Fe;rw[h]
 have M:∀ {o:Nat}{b:Bs}{l:List Bs},(Fe aa ae o).filter (ce (aJ aa ae day))=b::l->b∈Fe _ _ o:=λh=>(vN (h ▸ mX ..)).1;induction k with
 |one o b l hS h ho=>
  rintro O _ _ ⟨⟩;obtain⟨r,U,hx⟩:=D8 hS (O o (mX ..));exact D9 hx (rs U ▸ M h) (.inl ho)
 |more o m ns c b l hS h ho hm k d=>
  rintro O _ _ ⟨⟩;obtain⟨r,U,hx⟩:=D8 hS (O o (mX ..));have hb:=rs U ▸ M h;obtain⟨a,q,e,e2,_,f⟩:=sA g U hb ho;have i:a=m:=N9
  subst i;exact D9 hx hb (.inr ⟨a,q,e,e2,f,d (λx hx=>O x (mZ _ hx)) _ _ rr⟩)
def B8 (g:∀r∈aa,bB r){o:Nat}{ns:LN}{c:Int}(h:o∈mK n (cH aa ae day))(k:Lk (aJ aa ae day) (Fe aa ae) (o::ns) c):n∈o::ns:=by
 refine Decidable.byContradiction λz=>?_;have:=B7 (n:=n) g k (λx hx e=>z (by rw[<-e];exact hx)) o ns rr;have h2:=(vN h).2;rw[ou this]at h2;cases h2
end
end Lw
namespace Lw
open PySem DL L2
def VD (d:D)(r:LD):pi (d::r) (some 1) none=r:=by
 simp_all[pi,HT.de]
def zQ (aa:LD)(n:Nat):pi aa none (some (n:Int))=aa.take n:=by
 simp_all[pi,HT.FY,HT.LA]
def zR {op:D->OB}{fa:FE}{ρ:DL.Env}{x:D}{b:Bool}{z:OB}(M:fa ρ=some (x,b))(e2:op x=z):f1 op fa ρ=z:=by unfold f1;rw[M];exact e2
def zS (parts:LS)(aj:LD):hV (parts.map .str) aj=(parts.zip aj).map λx=>.tup [.str x.1,x.2]:=by
 induction parts generalizing aj with
 |nil=>rfl
 |cons a l M=>
  cases aj with
  |nil=>rfl
  |cons d r=>simp_all[hV]
def mM {α:Type}(l:List α):UV [.lst (l.map λ_=>.bl true)]=some (.bl true,false):=by
 simp
noncomputable def sD (c:Nat):Bool:=decide (97<=c) && decide (c<=122)
def zU (c:Nat)(ρ:DL.Env)(h:ρ[0]? = some (some (.str ⟨#[c]⟩,false))):ju OH OH (fC (.str "a")) (am 0) (fC (.str "z")) ρ=some (.bl (sD c),false):=by
 refine iq (b1:=false) (b2:=false) (b3:=false) ?_ ?_ ?_ (CC _ _) λ_=>CC _ _
 .rfl
 .simp[h]
 rfl
noncomputable def ot (z:Str):Bool:=(decide (1<=z.length) && decide (z.length<=8)) && z.cps.toList.all sD
def zV (z:Str):z.cps.toList.length=z.length:=by simp[Str.length]
def jR {z:Str}(h:ot z=true):nL [.str z]=some (.bl true,false):=by
 unfold ot at h;rw[vC,vC]at h;obtain⟨⟨h1,M⟩,ha⟩:=h;have hl:z.length<=sizeLine:=cD N9;refine ah rr (aq (bw (p:=false) (q:=false) H9 λ_=>ba (p:=true) (b9 ((iq (y:=.int z.length) (z:=.int 8) (b2:=false) (b4:=false) (p:=true) (q:=true) rr (by simp[hl]) rr s9 λ_=>by simp;lia).trans rr))) (ak (aK (ds:=[.lst (z.cps.toList.map λc=>.bl (sD c))]) ?_ ?_)))
 .have:=ir (fi:=dn (am 0)) (nT:=1) (cap:=[]) (tg:=f7 0) (ρ:=[some (.str z,false)]) z.cps.toList (λc=>.str ⟨#[c]⟩) _ (by simp[EN]) (by rw[zV];lia) λc _=>
   ⟨_,rr,false,zU c _ (by simp[bZ])⟩
  exact a6 (b:=true) this rr
 simp_all
def uJ {d lo hi:Int}(h1:lo<=d)(h2:d<=hi):qX [.int d,.int lo,.int hi]=some (.bl true,false):=by
 refine ah rr (ak ((ci (p:=true) (b1:=false) H9 λ_=>(ci (Nl (p:=false) (b1:=false) H9) λ_=>(iq (b4:=false) (p:=true) rr rr rr s9 λ_=>by simp;lia).trans rr).trans rr).trans rr))
def NS {d:Int}(h1:0<=d)(h2:d<=9999):yY [.int d]=some (.bl true,false):=ah rr (ak (aK rr (uJ h1 h2)))
def uK {z:Str}(h:ot z=true):qY [.str z]=some (.bl true,false):=ah rr (ak (aK rr (jR h)))
def B9 {ps:LS}(h1:1<=ps.length)(M:ps.length<=8)(h:∀p∈ps,ot p=true):jA [.tup (ps.map .str)]=some (.bl true,false):=by
 refine ah rr (aq (bw (p:=false) H9 λ_=>ba (b9 ((iq (y:=.int ps.length) (z:=.int 8) (b2:=false) (b4:=false) (p:=true) (q:=true) rr H9 rr s9 λ_=>by simp;lia).trans rr))) (ak (aK ?_ (mM ps))));have:=ir (fi:=dn (am 0)) (nT:=1) (cap:=[]) (tg:=f7 0) (fe:=fA _ (ai (am 0) av)) (ρ:=[some (.tup (ps.map .str),false)]) ps (λp=>.str p) _ H9 N9 λp hp=>
  ⟨_,rr,false,aK (by simp[bZ]) (uK (h p hp))⟩
 exact a6 this rr
def cq {p q:Str}{v:D}{b:Bool}(h:decide (p=q)=b):bx (f2 jV (am 0) (fC (.str q))) [some (.str p,false),some (v,false)]=some b:=by simp_all
def c2 {p q r:Str}{v:D}(h:(decide (p=q) || decide (p=r))=false):iF (bx (f2 jV (am 0) (fC (.str q)))) (bx (f2 jV (am 0) (fC (.str r)))) [some (.str p,false),some (v,false)]=some false:=(bw (cq rr) λ_=>cq rr).trans (by rw[h])
def c3 {p q r t:Str}{v:D}(h:(decide (p=q) || (decide (p=r) || decide (p=t)))=false):iF (bx (f2 jV (am 0) (fC (.str q)))) (iF (bx (f2 jV (am 0) (fC (.str r)))) (bx (f2 jV (am 0) (fC (.str t))))) [some (.str p,false),some (v,false)]=some false:=(bw (cq rr) λ_=>bw (cq rr) λ_=>cq rr).trans (by rw[h])
def c3t {p q r t:Str}{v:D}(h:(decide (p=q) || (decide (p=r) || decide (p=t)))=true):iF (bx (f2 jV (am 0) (fC (.str q)))) (iF (bx (f2 jV (am 0) (fC (.str r)))) (bx (f2 jV (am 0) (fC (.str t))))) [some (.str p,false),some (v,false)]=some true:=(bw (cq rr) λ_=>bw (cq rr) λ_=>cq rr).trans (by rw[h])
def xn {p:Str}{v:D}(h0:(decide (p=("day" : Str)) || decide (p=("since" : Str)))=false)(hp:(decide (p=("office" : Str)) || (decide (p=("by" : Str)) || decide (p=("person" : Str))))=true)(h:nL [v]=some (.bl true,false)):dM [.str p,v]=some (.bl true,false):=ah rr (aq (c2 h0) (aW (c3t hp) (ak (aK rr h))))
def Ft {v:D}(h:jA [v]=some (.bl true,false)):dM [.str "pieces",v]=some (.bl true,false):=ah rr (aq (c2 I9) (aq (c3 I9) (aq (cq I9) (aq (cq I9) (aq (cq I9) (aq (cq I9) (aq (cq I9) (aq (cq I9) (aW (cq I9) (ak (aK rr h)))))))))))
noncomputable def gV (z:Str):Bool:=FC (.str z) [.str "by",.str "person",.str "whom"]
def there:D->Bool
 |.non=>false
 |_=>true
@[simp] def Yh:there .non=false:=rfl
@[simp] def Yi (z:Str):there (.str z)=true:=rfl
@[simp] def Yj (z:Int):there (.int z)=true:=rfl
@[simp] def Yk (z:LD):there (.tup z)=true:=rfl
def zW (d:D)(h:Ej d=false):qd d .non=some (.bl (there d),false):=by
 cases d<;>simp[there]at h |-
noncomputable def BA (l:List (Str×D)):LD:=(l.filter λx=>gV x.1 && there x.2).map (·.2)
structure Nm7 (zs:List Str):Prop where
 len:zs.length=7
 nd:zs.Nodup
 nm:∀z∈zs,ot z=true
noncomputable def off (zs:LS)(k:Nat):Str:=zs.getD (if k=0 then 5 else 6) ""
def Kt {zs:LS}(g:Nm7 zs):¬off zs 0=off zs 2:=by
 obtain⟨l,nd,_⟩:=g;match zs,l with
 |[a,b,c,d,e,f,g],_=>
  intro h;have h:f=g:=h;simp_all
structure DeedG (zs:List Str)(k:Nat)(h:Int)(kind:Str)(aj:List D):Prop where
 parts:∃(parts:List Str)(ss:List Str),yp bV (.str kind)=some (.tup (parts.map .str),false)/\parts.length=aj.length/\(∀x∈parts.zip aj,dM [.str x.1,x.2]=some (.bl true,false))/\BA (parts.zip aj)=ss.map .str/\ss.length<=2/\∀s∈ss,s∈zs
 len:aj.length<=10
 flat:∀d∈aj,aO d=true/\Ej d=false
 day:(kind=("root" : Str)/\(k=0\/k=2)/\∃r,aj=.str (off zs k)::r)\/(kind≠("root" : Str)/\(∃(day:Int)(r:List D),aj=.int day::r/\day<=h/\0<=day/\(kind=("chosen" : Str)->∃a b c s,r=[a,b,c,.int s]/\day<=s))/\ly bV (.str kind) (.str "day")=some (.int 0,false))
def zX (zs:LS)(k:Nat)(r:D):Prop:=∃h kind aj,r=row h kind aj/\0<=h/\h<=9999/\DeedG zs k h kind aj
def NT (k q:Str):jV (.str k) (.str q)=some (.bl (decide (k=q)),false):=H9
noncomputable def xy0:D->{d//aO d=true}
 |.tup [_,.tup (.str _::.int d::_)]=>⟨.int d,rr⟩
 |_=>⟨.non,rr⟩
noncomputable def Sd (r:D):D:=(xy0 r).1
def NU {k:Nat}{h:Int}{kind:Str}{aj:LD}(g:DeedG zs k h kind aj):bo [row h kind aj]=some (Sd (row h kind aj),false):=by
 rcases g.day with⟨e,_,r,rfl⟩|⟨e,⟨day,r,rfl,_⟩,hi⟩
 .exact ah rr (aW (b9 (eI (aK rr (dc _ _ _)) rr (by rw[NT,ou e]))) (ak rr))
 .exact ah rr (aq (b9 (eI (aK rr (dc _ _ _)) rr (by rw[NT,xx e]))) (ak (aK rr (bc hi rr))))
def Ku {k:Nat}{h:Int}{kind:Str}{aj:LD}(g:DeedG zs k h kind aj):u0 [.tup (.str kind::aj)]=some (.bl true,false):=by
 obtain⟨parts,ss,hp,hl,ha,_⟩:=g.parts;have M:(bV.lookup kind).isSome=true:=by
  simp_all
 have hsz:=g.len;have O:f2 eA (am 0) (fC (.int 0)) [some (.tup (.str kind::aj),false)]=some (.str kind,false):=by simp[xC]
 have U:=zR (x:=.str kind) (b:=false) O hp;refine ah rr (aq (bw (p:=false) (q:=false) H9 λ_=>bw (p:=false) (q:=false) (b9 (b:=false) s9) λ_=>ba (p:=true) (b9 (b:=false) (aK (a6 O rr) H9))) (aq (bw (p:=false) (q:=false) (b9 (b:=false) (zR (x:=.str kind) (b:=false) O ?_)) λ_=>b9 (b:=false) (eI (x:=.int ((aj.length+1:Nat):Int)) (y:=.int (1+(parts.length:Int))) (b1:=false) (b2:=false) H9 (eI (x:=.int 1) (y:=.int parts.length) (b1:=false) (b2:=false) rr (aK (a6 U rr) H9) H9) ?_)) (ak (aK (ds:=[.lst ((parts.zip aj).map λ_=>.bl true)]) ?_ (mM _)))))
 .simp only[AF,M];rfl
 .simp;lia
 .have:=ir (fi:=GK (f1 (yp bV) _) (M3 (am 0) (qc (fC (.int 1))) tV)) (nT:=2) (cap:=[]) (tg:=FD [0,1]) (fe:=fA dM (ai (am 0) (ai (am 1) av))) (parts.zip aj) (λx=>.tup [.str x.1,x.2]) (λ_=>.bl true)
   (by
    show(f1 (yp bV) _ _).bind _=_;rw[U];simp[VD,zS]) (by rw[length_zip];lia) λx hx=>by
    exact⟨_,rr,false,aK (by simp[bZ]) (ha x hx)⟩
  exact a6 (b:=true) this rr
def Fu (r:D):aO (Sd r)=true:=(xy0 r).2
def BB {k:Nat}{h:Int}{kind:Str}{aj:LD}(g:DeedG zs k h kind aj):oG [row h kind aj]=some (.bl true,false):=by
 have hd:=NU g;have M:∀ {hh:FS}{r:Option Res},hh _=r->cx (dO 1 (fA bo (ai (am 0) av))) hh [some (row h kind aj,false),none]=r:=λe=>wN (b:=false) (aK rr hd) (Fu _) e;rcases g.day with⟨e,_,r,rfl⟩|⟨e,⟨day,r,rfl,U,d,O⟩,hi⟩
 .exact ah rr (M (aW (b9 (b:=false) (eI (x:=.non) (y:=.non) rr rr (by simp[Ei]))) (ak rr)))
 .refine ah rr (M (aq (b9 (b:=false) (eI (x:=.int day) (y:=.non) (b1:=false) rr rr (by simp[Ei]))) (aq ((bO (q:=false) (b9 (b:=false) (eI (b2:=false) (aK rr (dc _ _ _)) rr (NT _ _))) λhc=>?_).trans (by rw[Bool.and_false])) (ak ?_))))
  .have hc:=xy hc;subst hc;obtain⟨a,b,c,s,rfl,hs⟩:=O rr;refine b9 (b:=false) (eI (y:=.int day) (aK rr (bc (i:=4) (wM I9) rr)) rr ?_);simp;lia
  .refine eI (x:=.int day) (y:=.int h) (b1:=false) (b2:=false) rr (by simp[row,xC]) ?_;simp;lia
def NV {k:Nat}{r:D}(g:zX zs k r):yZ [r]=some (.bl true,false):=by
 obtain⟨h,kind,aj,rfl,h0,h1,g⟩:=g;refine ah rr (aq (bw (p:=false) (by simp[row]) λ_=>by simp[row]) (ak ((ci (aK (by simp[row,xC]) (NS h0 h1)) λ_=>(ci (aK (by simp[row,ER]) (Ku g)) λ_=>aK rr (BB g)).trans rr).trans rr)))
noncomputable def DA:D->Str
 |.tup [_,.tup (_::.str o::_)]=>o
 |_=>("" : Str)
def NW:ly bV (.str "root") (.str "office")=some (.int 0,false):=wM I9
def sE {k:Nat}{r:D}(g:zX zs k r)(h:aD r=true):aw [r,.str "office"]=some (.str (DA r),false)/\DA r=off zs k/\(k=0\/k=2):=by
 obtain⟨a,kind,aj,rfl,_,_,g⟩:=g;have h:=xy h;subst h;rcases g.day with⟨_,hk,r,rfl⟩|⟨e,_⟩
 .exact⟨bc NW rr,rr,hk⟩
 simp_all
def sG {k:Nat}{r:D}(g:zX zs k r):bj [r]=some (.str (kindOf r),false):=by
 obtain⟨a,kind,aj,rfl,_⟩:=g;exact dc _ _ _
def NX (k:Str)(ws:LS):A9 (.str k) (.lst (ws.map .str))=some (.bl (decide (k∈ws)),false):=by
 simp only[A9,fm,vJ,mB];rw[if_pos ⟨rr,km ws⟩]
def zY (zs:LS)(aa:LD):Prop:=(aa.length<=24/\Nm7 zs)/\∀(j:Nat) r,aa[j]? = some r->zX zs j r
def zY.mem {aa:LD}(g:zY zs aa){r:D}(h:r∈aa):∃k,zX zs k r:=by
 obtain⟨j,hj⟩:=mem_iff_getElem?.mp h;exact⟨j,g.2 j r hj⟩
def Fv {aa:LD}(g:zY zs aa){i:Nat}{r:D}(k:aa[i]? = some r):iu [.tup (aa.take i),r]=some (.bl false,false):=by
 have h:=g.2 i r k;have l:=g.1.1;refine ah rr (ak ((ci (p:=aD r) (q:=false) (b1:=false) (eI (b1:=false) (b2:=false) (aK (ds:=[r]) rr (sG h)) rr (NT _ _)) λO=>?_).trans (by rw[Bool.and_false])));obtain⟨ho,a,hk⟩:=sE h O;have M:∀x∈aa.take i,∃j,j<i/\zX zs j x:=λx hx=>by
  obtain⟨j,hj⟩:=mem_iff_getElem?.mp hx;rw[List.getElem?_take]at hj;split at hj
  .rename_i m;exact⟨j,m,g.2 j x hj⟩
  simp_all
 have hc:=di (fi:=dn (am 0)) (nT:=1) (cap:=[]) (tg:=f7 0) (c:=bx (f2 jV (fA bj (ai (am 0) av)) (fC _))) (fe:=fA aw (ai (am 0) (ai (fC (.str "office")) av))) (ρ:=[some (.tup (aa.take i),false)]) (aa.take i) (λx=>x) aD _ H9 s9 λx hx=>by
  obtain⟨j,hj,U⟩:=M x hx;exact⟨_,rr,b9 (b:=false) (eI (x:=.str (kindOf x)) (b1:=false) (b2:=false) (aK (ds:=[x]) (by simp[bZ]) (sG U)) rr (NT _ _)),λhx=>⟨false,aK (by simp[bZ]) (sE U hx).1⟩⟩
 have d:jC [.tup (aa.take i)]=some (.lst ((((aa.take i).filter aD).map DA).map .str),true):=by
  rw[uP];exact ah rr (ak hc)
 refine eI (x:=.str (DA r)) (b1:=false) (b2:=true) (aK rr ho) (aK rr d) ?_;rw[NX];congr 3;refine xx λn=>?_;obtain⟨x,hx,e⟩:=vO n;obtain⟨hx,o⟩:=vN hx;obtain⟨j,hj,U⟩:=M x hx;obtain⟨_,f,s⟩:=sE U o;rw[a,f]at e;have:=Kt g.1.2;lia
theorem zZ:∀(ss M:LS){x:Str},x∈ss.foldl gQ M->x∈M\/x∈ss
 |[],M,x,h=>.inl h
 |y::ss,M,x,h=>by
  rcases zZ ss _ h with h|h
  .rcases yt.mp h with h|h
   .exact .inl h
   simp_all
  simp_all
theorem sJ:∀(ss M:LS),M.Nodup->(ss.foldl gQ M).Nodup
 |[],M,h=>h
 |y::ss,M,h=>sJ ss _ (qm h y)
theorem Aa {ss:LS}{x:Str}(h:x∈eB ss):x∈ss:=by
 rcases zZ ss [] h with h|h
 .cases h
 .exact h
theorem Ab:∀(l m:LS),l.Nodup->(∀x∈l,x∈m)->l.length<=m.length
 |[],m,_,_=>uN _
 |x::l,m,h,s=>by
  rw[nodup_cons]at h;have:=Ab l _ h.2 λy hy=>(List.mem_erase_of_ne (b:=x) (λe=>h.1 (by rw[<-e];exact hy))).mpr (s y (mZ _ hy));grind
def Kv {h:Int}{kind:Str}{aj:LD}{parts:LS}(hp:yp bV (.str kind)=some (.tup (parts.map .str),false)):iU [row h kind aj]=some (.lst ((parts.zip aj).map λx=>.tup [.str x.1,x.2]),true):=by
 refine ah rr (ak ?_);have M:f1 _ (fA _ (ai (am 0) av)) [some (row h _ aj,false)]=some _:=zR (aK rr (dc h _ _)) hp;have e2:M3 (f2 eA (am 0) (fC (.int 1))) (qc (fC (.int 1))) tV [some (row h kind aj,false)]=some (.tup aj,false):=by simp[row,ER,VD]
 show(((f1 _ _ [some _]).bind λx=>(M3 _ _ _ [some _]).bind _).map _)=_;rw[M,e2];simp[zS]
def Fw {k:Nat}{r:D}(g:zX zs k r):∃ss:LS,jD [r]=some (.lst (ss.map .str),true)/\ss.length<=2/\∀s∈ss,s∈zs:=by
 obtain⟨h,kind,aj,rfl,_,_,g⟩:=g;obtain⟨parts,ss,hp,hl,_,hk,O,a⟩:=g.parts;have M:=di (fi:=dn (fA iU (ai (am 0) av))) (nT:=2) (cap:=[]) (tg:=FD [0,1]) (c:=fg (bx (f2 A9 (am 0) (fC gd))) (bx (f2 qd (am 1) (fC .non)))) (fe:=am 1)
  (ρ:=[some (row h kind aj,false),none]) (parts.zip aj) (λx=>.tup [.str x.1,x.2]) (λx=>gV x.1 && there x.2) (·.2) (by
   have d:fA iU (ai (am 0) av) [some (row h kind aj,false),none]=_:=aK rr (Kv hp);simp_all) (by
   have:=g.len;simp<;>lia) λx hx=>by
   have U:=(g.flat x.2 (of_mem_zip hx).2);refine⟨_,rr,bO (b9 (b:=false) ?_) λ_=>b9 (b:=false) ?_,λ_=>⟨false,?_⟩⟩
   .rfl
   .exact eI (x:=x.2) (y:=.non) (b1:=false) (b2:=false) (by simp[bZ]) rr (zW _ U.2)
   rfl
 refine⟨kP (eB ss),ah rr (bE ?_ (cV ss) (ak ?_)),?_,?_⟩
 .exact hk ▸ M
 .simp<;>lia
 .rw[(cz _).length_eq];exact vR (mf ss) O
 .grind[Aa,cz]
def Fx {aa:LD}(g:∀r∈aa,∃k,zX zs k r)(hl:aa.length<=60)(O:zs.length=7):∃n:Nat,jE [.tup aa]=some (.int n,false)/\n<=7:=by
 obtain⟨ρ',e,ys,v,rfl,hz,M⟩:=dW (tg:=f7 2) (g:=pv) (λi ρ=>∃(ys:LS)(v:OB),ρ=[some (.tup aa,false),some (.lst (ys.map .str),true),v]/\ys.length<=2*i/\∀z∈ys,z∈zs) aa
  _ ⟨[],none,rr,H9,H9⟩ (by
   rintro i d ρ hd ⟨ys,v,rfl,hz,M⟩;have hi:=(vV hd).1;obtain⟨k,U⟩:=g d (vL hd);obtain⟨ss,hp,c,a⟩:=Fw U;have hsz:(ys.map D.str).length+(ss.map D.str).length<=sizeLine:=cD s9;refine⟨_,[some _,some _,some (d,false)],rr,.inl ?_,ys++ss,some (d,false),rr,s9,?_⟩
   .have hv:fA jD (ai (am 2) av) [some (.tup aa,false),some (.lst (ys.map .str),true),some (d,false)]=some _:=aK (ds:=[d]) rr hp;show GO 1 _ [some _,some _,some (d,false)]=_;simp only[GO,List.getElem?_cons_succ,List.getElem?_cons_zero,hv,vJ];rw[if_pos ⟨trivial,cV ss,hsz⟩];simp
   grind)
 refine⟨(eB ys).length,ah rr (bE (ds:=[]) q9 rr (cu (fG (ds:=aa) (by simp[jm]) e) (ak (zR (b:=false) rr ?_)))),?_⟩
 .simp<;>lia
 .exact vR (Ab (eB ys) zs (sJ ys [] nodup_nil) λz hz=>M z (Aa hz)) (le_of_eq O)
def BC {aa:LD}(g:zY zs aa){i:Nat}(hi:i<aa.length):m7 [.tup aa,.int i]=some (.bl false,false):=by
 obtain⟨r,O⟩:∃r,aa[i]? = some r:=⟨_,vU hi⟩;have ha:=bi O;have a:=g.1.1;have M:∀ρ:DL.Env,ρ[0]? = some (some (.tup aa,false))->ρ[1]? = some (some (.int i,false))->f2 eA (am 0) (am 1) ρ=some (r,false):=λρ h0 h1=>by simp[h0,h1,ha]
 obtain⟨n,hn,c⟩:=Fx (λx hx=>g.mem (mem_of_mem_take hx)) s9 g.1.2.len;have U:=zQ aa (i+1);refine ah rr (aq (bw (p:=false) (q:=false) (b9 (b:=false) (by simp[j9];lia)) λ_=>ba (p:=true) (b9 (b:=false) (aK (ds:=[r]) (a6 (M _ rr rr) rr) (NV (g.2 i r O))))) (ak ((uz (p:=false) (q:=false) (aK (a6 (b:=false) (by simp[zQ]) (a6 (M _ rr rr) rr)) (Fv g O)) λ_=>eI (y:=.int 20) (b2:=false) (aK (a6 (b:=false) (by simp;exact U) rr) hn) rr s9).trans rr)))
def Ac {aa:LD}(g:zY zs aa)(hf:aZ aa=true)(d:D)(hd:d=.lst aa\/d=.tup aa):eW [d]=some (.tup aa,false):=by
 have hl:=g.1.1;obtain⟨ρ',e,v,rfl⟩:=qS (tg:=f7 2) (g:=qZ) _ (λi ρ=>∃v:Option _,ρ=[some (d,false),some (.tup aa,false),v])
  _ ⟨none,rr⟩ (by
   rintro i ρ hi ⟨v,rfl⟩;exact⟨_,_,rr,.inl (iS (b9 (aK rr (BC g hi))) rr),some _,rr⟩)
 refine ah rr (aq (ba (p:=true) (b9 (b:=false) (aK (a6 rr (a6 (d:=.tup [.ty "list",.ty "tuple"]) (b:=false) q9 rr)) ?_))) (wN (b:=false) (aK rr ?_) (by simp[hf]) (cu (qV (io (b:=false) H9 N9) e) (m5 rr))))
 .rcases hd with rfl|rfl<;>simp
 .rcases hd with rfl|rfl<;>simp
end Lw
namespace Lw
open PySem PySem.Spec DL L2
def BD (a:Int){m:Int}(h:0<m):iH (.int a) (.int m)=some (.int (a % m),false):=by simp[h]
def VE (a:Int){m:Int}(h:0<m)(h2:m<1073741824):fj (.int a) (.int m)=some (.int (a / m),false):=by simp[h,h2]
def im {f:FE}{ρ:DL.Env}{a m:Int}(e:f ρ=sI a)(h:0<m):f2 iH f (fI m) ρ=sI (a % m):=aX _ _ e rr (BD a h)
def sK {f:FE}{ρ:DL.Env}{a m:Int}(e:f ρ=sI a)(h:0<m)(h2:m<1073741824):f2 fj f (fI m) ρ=sI (a / m):=aX _ _ e rr (VE a h h2)
def BE (a:Int){b:Int}(h : -1000000<=b/\b<=1000000):yf (.int a) (.int b)=some (.int (a*b),false):=by
 have : -18446744073709551616<b/\b<18446744073709551616:=N9
 simp[this]
def xo {k:Int}(h : -1000000000000<=k/\k<=1000000000000):Builtin.Int.intBits k<=64:=intBits_le_64 N9 N9
def kF {ns:LI}(hf:Te ns)(k:Nat)(hk:k<=100):∃c:Int,fu [.lst (ns.map .int),.int k]=sI c:=by
 have M:∀ρ:DL.Env,ρ[0]? = some (sL (ns.map .int))->fA lh (fV 0 av) ρ=sI ns.length:=λρ h=>by
  simp_all
 have dI:∀v:Int,Builtin.Int.intBits v<=2097152->xP (f2 iH (f2 Vy (am 2) (am 2)) (fI 2147483399)) [sL (ns.map .int),sI k,sI v]=some (.rt (.int (v*v % 2147483399)) false):=λv hv=>
  ak (im (aX (.int v) (.int v) rr rr (by simp[hv])) O9)
 by_cases h:k<ns.length
 .refine⟨ns.getD k 0,ah rr (aW (cj (aX (.int k) (.int ns.length) rr (M _ rr) s9)) (ak (aX (.lst (ns.map .int)) (.int k) rr rr ?_)))⟩;have:=CD (xs:=ns) (i:=k) N9 (by simpa using h);rw[Int.toNat_natCast]at this;exact this
 .have U:Builtin.Int.intBits (80021*(k:Int)+41)<=64:=xo N9;have a:f2 gP (f2 yf (fI 80021) (am 1)) (fI 41) [sL (ns.map .int),sI k,none]=sI (80021*k+41):=aX (.int (80021*k)) (.int 41) (aX (.int 80021) (.int k) rr rr (BE _ N9)) rr rr;have b:bx (f2 WK (am 1) (fA lh (fV 0 av))) [sL (ns.map .int),sI k,none]=some false:=cj (aX (.int k) (.int ns.length) rr (M _ rr) s9);by_cases hz:0<ns.length
  .have O:(0:Int)<ns.length:=N9
   have h5:=mod_lt (x:=(k:Int)*31) O;obtain⟨j,hj⟩:∃j:Nat,(k:Int)*31 % ns.length=j:=⟨((k:Int)*31 % ns.length).toNat,N9⟩;have d:j<ns.length:=N9
   have hb:Builtin.Int.intBits (ns.getD j 0)<=1048576:=hf _ (by grind);have ei:f2 eA (am 0) (f2 iH (f2 yf (am 1) (fI 31)) (fA lh (fV 0 av))) [sL (ns.map .int),sI k,sI (80021*k+41)]=sI (ns.getD j 0):=by
    refine aX (.lst (ns.map .int)) (.int j) rr (hj ▸ aX (.int (k*31)) (.int ns.length) (aX (.int k) (.int 31) rr rr (BE _ O9)) (M _ rr) (BD _ O)) ?_;have:=CD (xs:=ns) (i:=j) N9 (by simpa using d);rw[Int.toNat_natCast]at this;exact this
   generalize ns.getD j 0=x at hb ei;have e:(k:Int)*k<=10000/\0<=(k:Int)*k:=by
    have h1:k*k<=100*100:=Nat.mul_le_mul hk hk;grind
   have ev:f2 gP (f2 gP (f2 yf _ (fI 40692)) (f2 yf (f2 yf (am 1) (am 1)) (fI 8009))) (fI 19) [sL (ns.map .int),sI k,sI (80021*k+41)]=sI (x*40692+k*k*8009+19):=
    aX (.int (x*40692+k*k*8009)) (.int 19) (aX (.int (x*40692)) (.int (k*k*8009)) (aX (.int x) (.int 40692) ei rr (BE _ O9)) (aX (.int (k*k)) (.int 8009) (aX (.int k) (.int k) rr rr (BE _ N9)) rr (BE _ O9)) rr) rr rr
   generalize (k:Int)*k=y at e ev;have f:Builtin.Int.intBits (x*40692+y*8009+19)<=2097152:=by
    have h1:=intBits_mul_le hb (xo (k:=40692) O9);have h2:=intBits_add_le h1 (xo (k:=y*8009) N9);have h3:=intBits_add_le h2 (xo (k:=19) O9);exact vR h3 O9
   exact⟨_,ah rr (aq b (f9 (.int (80021*k+41)) a rr (cu (l5 (cj (aX (.int ns.length) (.int 0) (M _ rr) rr s9)) (yW ev rr)) (dI _ f))))⟩
  .refine⟨_,ah rr (aq b (f9 (.int (80021*k+41)) a rr (cu (iS (cj (aX (.int ns.length) (.int 0) (M _ rr) rr (by rw[show(ns.length:Int)=0 by lia];rfl))) rr) (dI (80021*k+41) (vR U O9)))))⟩
def Se {ρ:DL.Env}{i n:Nat}{ds:LD}{M O:FE}{d:D}{b b':Bool}(e:ρ[i]? = some (some (.lst ds,true)))(ev:O ρ=some (d,b))(ek:M ρ=some (.int n,b'))(hn:n<ds.length)(hf:aO d=true):M9 i M O ρ=some (.nx (ρ.set i (some (.lst (ds.set n d),true)))):=by
 simp_all[Gb]
def Pl (x:Int):0<=x % 26/\x % 26<26:=mod_lt O9
noncomputable def sM:PySem.Str:="mlkjihgfedcbazyxwvutsrqpon"
def Fy:sM.cps.size=26:=I9
def NY (x:Int):Nat:=sM.cps.toList.getD (x % 26).toNat 0
def Kw (x:Int):eA (.str sM) (.int (x % 26))=sS ⟨#[NY x]⟩:=DL.A0 (Pl x).1 (by simp_all[Fy,Pl]) I9
def Kx:∀i:_root_.Fin 26,sD (sM.cps.toList.getD i.val 0)=true:=I9
def Ky:∀i j:_root_.Fin 26,sM.cps.toList.getD i.val 0=sM.cps.toList.getD j.val 0->i=j:=I9
def DB (x:Int):sD (NY x)=true:=Kx ⟨(x % 26).toNat,N9⟩
def NZ {x y:Int}(h:NY x=NY y):x % 26=y % 26:=by
 have:=Ky ⟨(x % 26).toNat,N9⟩ ⟨(y % 26).toNat,N9⟩ h;grind
def sg (cs:LN):LS:=cs.map λc=>⟨#[c]⟩
theorem Kz:∀cs:LN,((sg cs).map (·.length)).sum=cs.length
 |[]=>rr
 |c::cs=>by
  show 1+((sg cs).map _).sum=cs.length+1;rw[Kz cs];lia
theorem Ad:∀(zs:LS)(y:Str),(Str.join ("" : Str) (y::zs)).cps.toList=(y::zs).flatMap λz=>z.cps.toList
 |[],y=>by rw[flatMap_cons,List.flatMap_nil,uQ];rfl
 |z::r,y=>by
  have M:∀a b:Str,(a++b).cps.toList=a.cps.toList++b.cps.toList:=λa b=>by show(a.cps++b.cps).toList=_;simp
  show(y++("" : Str)++Str.join _ _).cps.toList=_;rw[M,M,Ad r z,show("" : Str).cps.toList=[]from rr,uQ];rfl
def K1 {zs:LS}(h:zs≠[]):(Txt.join ("" : Str) zs).cps.toList=zs.flatMap λz=>z.cps.toList:=by
 cases zs with
 |nil=>exact absurd rr h
 |cons y zs=>
  simp_all[Txt.join,StrLaws.glued_eq_join,Ad]
def BF {cs:LN}(h:cs≠[]):(Txt.join ("" : Str) (sg cs)).cps.toList=cs:=by
 simp_all[K1,sg,List.flatMap_map]
def VF {cs:LN}(h1:1<=cs.length)(M:cs.length<=8)(hl:∀c∈cs,sD c=true):ot (Txt.join ("" : Str) (sg cs))=true:=by
 have e:=BF (cs:=cs) (λz=>by rw[z]at h1;cases h1);unfold ot;rw[<-zV];simp_all
def Oa (cs:LN)(h:cs.length<=1000):GF (.str "") (.lst ((sg cs).map .str))=sS (Txt.join ("" : Str) (sg cs)):=by
 show(dL _).bind _=_;rw[mD];show(if _ then _ else _)=_;rw[Kz,show("" : Str).length=0 from rr,if_pos N9]
def K2 (c:Int):∃zs:LS,u5 [.int c]=lT (zs.map .str)/\Nm7 zs:=by
 have t:=mod_lt (x:=c) (m:=8) O9;obtain⟨n,hn⟩:∃n:Nat,1+c % 8=n:=⟨(1+c % 8).toNat,N9⟩;let bs:LN:=(List.range n).map λ(k:Nat)=>NY (c / (6+3*k));have O:bs.length=n:=by simp[bs]
 have f:∀x∈bs,sD x=true:=λx hx=>by obtain⟨k,_,rfl⟩:=vO hx;exact DB _
 have hb:=ir (fi:=iJ (f2 gP (fI 1) (f2 iH (am 0) (fI 8)))) (nT:=1) (cap:=[1,0]) (tg:=f7 0) (fe:=f2 eA (am 1) (f2 iH (f2 fj (am 2) (f2 gP (fI 6) (f2 yf (fI 3) (am 0)))) (fI 26)))
  (ρ:=[sI c,sS sM,none,none,none,none,none]) (List.range n) (λ(k:Nat)=>.int k) _
  (by rw[io (j:=n) (b:=false) (hn ▸ aX (.int 1) (.int (c % 8)) rr (im rr O9) rr) N9,uy,uP];rfl) s9 λk hk=>by
   have hk:=mem_range.mp hk;exact⟨_,rr,false,aX (.str sM) (.int (c / (6+3*k) % 26)) rr (im (aX (.int c) (.int (6+3*k)) rr (aX (.int 6) (.int (3*k)) rr (aX (.int 3) (.int k) rr rr (BE _ N9)) rr) (VE _ N9 N9)) O9) (Kw _)⟩
 have o:(List.range n).map (λ(k:Nat)=>D.str ⟨#[NY (c / (6+3*k))]⟩)=(sg bs).map .str:=by simp[sg,bs]
 rw[o]at hb;have r:=mod_lt (x:=c / 8) (m:=n) N9;obtain⟨a,ha⟩:∃a:Nat,c / 8 % n=a:=⟨(c / 8 % n).toNat,N9⟩;have U:a<bs.length:=N9
 let nm:Nat->LN:=λi=>bs.set a (NY (c / 64+3*i));have M:∀i,(nm i).length=n:=λi=>by simp[nm,O]
 obtain⟨ρ',e,p,q,rfl⟩:=qS (tg:=f7 5) (g:=Bm) 7 (λi ρ=>∃p q:OB,ρ=[sI c,sS sM,lT ((sg bs).map .str),sI a,lT (((List.range i).map λi=>Txt.join ("" : Str) (sg (nm i))).map .str),p,q])
  _ ⟨none,none,rr⟩ (by
   rintro i ρ hi ⟨p,q,rfl⟩;have es:((sg bs).map D.str).set a (.str ⟨#[NY (c / 64+3*i)]⟩)=(sg (nm i)).map .str:=by simp only[sg,nm,uP,List.map_set,Function.comp]
   refine⟨_,_,rr,.inl (bE (ds:=(sg bs).map .str) H9 (cV _) (cu (Se (n:=a) (ds:=(sg bs).map .str) (d:=.str ⟨#[NY (c / 64+3*i)]⟩) (b:=false) (b':=false) rr ?_ rr (by simpa [sg]using U) rr) (iT (d:=.str (Txt.join ("" : Str) (sg (nm i)))) (b:=false) rr ?_ rr (bq s9)))),some (.int i,false),some (.lst ((sg (nm i)).map .str),true),?_⟩
   .exact aX (.str sM) (.int ((c / 64+3*i) % 26)) rr (im (aX (.int (c / 64)) (.int (3*i)) (sK rr O9 O9) (aX (.int 3) (.int i) rr rr (BE _ N9)) rr) O9) (Kw _)
   .rw[es];exact aX (.str "") (.lst ((sg (nm i)).map .str)) rr rr (Oa _ (by rw[M];lia))
   .rw[es,List.range_succ];simp)
 refine⟨(List.range 7).map λi=>Txt.join ("" : Str) (sg (nm i)),ah rr (f9 (.str sM) rr rr (bE hb (cV _) (f9 (.int a) ?_ rr (bE (ds:=[]) q9 rr (cu (qV (io (j:=7) (b:=false) rr O9) e) (m5 rr)))))),H9,?_,λz hz=>?_⟩
 .rw[<-ha];refine aX (.int (c / 8)) (.int n) (sK rr O9 O9) ?_ (BD _ N9);refine a0 [.lst ((sg bs).map .str)] (aP rr rr) ?_;rw[gK];simp[sg,O]
 .refine pairwise_map.mpr (List.Pairwise.imp_of_mem ?_ (List.nodup_range (n:=7)));intro i j hi hj s e;have e:=congrArg (λz:Str=>z.cps.toList) e;have e:nm i=nm j:=by
   have h1:∀i,nm i≠[]:=λi z=>by have:=M i;rw[z]at this;simp at this;lia
   simpa only[BF (h1 i),BF (h1 j)]using e
  have e:=congrArg (λl:LN=>l[a]?) e;simp only[nm,getElem?_set_self U,Option.some.injEq]at e;have:=NZ e;have hi:=mem_range.mp hi;have hj:=mem_range.mp hj;lia
 .obtain⟨i,_,rfl⟩:=vO hz;refine VF (by rw[M];lia) (by rw[M];lia) λx hx=>?_;rcases List.mem_or_eq_of_mem_set hx with h|h
  .exact f x h
  .rw[h];exact DB _
def PV (p:Str)(d:D):Bool:=WM (dM [.str p,d]) (.bl true) false
def jf:LS->LD->Bool
 |p::ps,d::ds=>PV p d && jf ps ds
 |_,_=>true
theorem kG:∀ {ps:LS}{ds:LD},jf ps ds=true->∀x∈ps.zip ds,dM [.str x.1,x.2]=some (.bl true,false)
 |[],_,_,x,h=>by simp at h
 |_::_,[],_,x,h=>by simp at h
 |p::ps,d::ds,h1,x,h=>by
  have h1:=(vC _ _ ▸ h1:PV p d=true/\jf ps ds=true);rcases vP h with rfl|h
  .exact wM h1.1
  .exact kG h1.2 x h
def a7 {p:Str}{d:D}{ps:LS}{ds:LD}(h:PV p d=true)(r:jf ps ds=true):jf (p::ps) (d::ds)=true:=by unfold jf;rw[h,r];rfl
def gW:∀n:_root_.Fin 16,PV "day" (.int (n.val:Int))=true:=I9
def Pm:∀n:_root_.Fin 30,PV "of" (.int (n.val:Int))=true:=I9
def K3:∀n:_root_.Fin 4,PV "further" (.int (n.val:Int))=true:=I9
def MK:LN:=[1,2,3,5,7]
def sP:∀m∈MK,PV "matters" (.int ((m:Nat):Int))=true:=I9
def xp:∀m∈MK,m∈MS:=O9
noncomputable def Ob (d:Nat):List (Int×OI):=[(0,none),(0,some 30),(1,some 20),(d,some (d+8)),(d+1,none),(0,some 40)]
def sQ:∀d:_root_.Fin 16,∀x∈Ob d.val,PV "stretch" (iD x)=true:=I9
def K4:∀n:_root_.Fin 18,PV "since" (.int (n.val:Int))=true:=I9
def uL {p:Str}{d:D}(h:dM [.str p,d]=some (.bl true,false)):PV p d=true:=by unfold PV;rw[h];rfl
def pe {z:Str}(h:ot z=true):PV "by" (.str z)=true:=uL (xn I9 I9 (jR h))
def Ae {z:Str}(h:ot z=true):PV "person" (.str z)=true:=uL (xn I9 I9 (jR h))
def xq {z:Str}(h:ot z=true):PV "office" (.str z)=true:=uL (xn I9 I9 (jR h))
def BG:PV "whom" .non=true:=I9
def VG {z:Str}(h:ot z=true):PV "whom" (.str z)=true:=
 uL (ah rr (aq (c2 I9) (aq (c3 I9) (aW (cq I9) (ak ((uz (p:=false) (b1:=false) (by simp ) λ_=>a0 _ rr (jR h)).trans rr))))))
def K5 {ps:LS}(h1:1<=ps.length)(M:ps.length<=8)(h:∀p∈ps,ot p=true):PV "pieces" (.tup (ps.map .str))=true:=uL (Ft (B9 h1 M h))
def Sf {c:Nat}{z:Str}(hc:c<3)(h:ot z=true):PV "changes" (.tup [.tup [.int (c:Int),.str z]])=true:=by
 have M:jB [.tup [.int (c:Int),.str z]]=some (.bl true,false):=ah rr (aq (bw (p:=false) (q:=false) H9 λ_=>by simp) (ak ((ci (p:=true) (q:=true) (b1:=false) (a0 [.int (c:Int),.int 0,.int 7] (by simp[xC,gS]) (uJ N9 N9)) λ_=>a0 [.str z] (by simp[ER]) (uK h)).trans rr)));have h1:=ir (fi:=dn (am 0)) (nT:=1) (cap:=[]) (tg:=f7 0) (fe:=fA jB (fV 0 av)) (ρ:=[sT _,none]) [()] _ _ rr O9 λ_ _=>⟨[sF _],rr,false,a0 _ rr M⟩;have h2:=ir (fi:=dn (am 0)) (nT:=1) (cap:=[]) (tg:=f7 0) (fe:=gR 0 0) (ρ:=[sT _,none]) [()] _ (λ_=>.int (c:Int)) rr O9 λ_ _=>⟨[sT [.int (c:Int),.str z]],rr,false,by simp[xC]⟩;have h3:=ir (fi:=GK (am 1) (M3 (am 1) (qc (fI 1)) tV)) (nT:=2) (cap:=[]) (tg:=FD [0,1]) (fe:=f2 WK (am 0) (am 1)) (ρ:=[sT [.tup [.int (c:Int),.str z]],lT [.int (c:Int)]]) ([]:List Unit) (λ_=>.non) (λ_=>.bl true) Y9 O9 λ_ h=>nomatch h;have O:m6 [.tup _]=some (.bl true,false):=ah rr (aq (bw (p:=false) (q:=false) H9 λ_=>ba (p:=true) (b9 (b:=false) (aK (a6 (b:=true) h1 rr) (mM [()])))) (bE h2 rr (ak (aK (ds:=[.lst []]) (a6 (b:=true) h3 rr) (mM ([]:List Unit))))));exact uL (ah rr (aq (c2 I9) (aq (c3 I9) (aq (cq I9) (aq (cq I9) (aq (cq I9) (aq (cq I9) (aq (cq I9) (aq (cq I9) (aq (cq I9) (ak (aK rr O))))))))))))
def Yl:gV ("office" : Str)=false:=I9
def ip2:gV ("matters" : Str)=false:=I9
def ip3:gV ("further" : Str)=false:=I9
def WP:gV ("day" : Str)=false:=I9
def Ym:gV ("person" : Str)=true:=I9
def ZR:gV ("by" : Str)=true:=I9
def Yn:gV ("of" : Str)=false:=I9
def Oc {zs:LS}{k day:Nat}{h:Int}{kind:Str}{r:LD}(parts ss:LS)(hc:yp bV (.str kind)=some (.tup (parts.map .str),false))(hl:parts.length=(D.int (day:Int)::r).length)(hp:jf parts (.int (day:Int)::r)=true)(hk:BA (parts.zip (.int (day:Int)::r))=ss.map .str)(U:∀s∈ss,s∈zs)(hf:(r.all λd=>aO d && !Ej d)=true)(hd:(day:Int)<=h)(h2:decide (ss.length<=2)=true:=by rfl)(O:decide (r.length<=9)=true:=by rfl)(M:(decide (kind = "root") || decide (kind = "chosen"))=false:=by decide +kernel)(hi:ly bV (.str kind) (.str "day")=sI 0:=by exact bW):DeedG zs k h kind (.int (day:Int)::r):=
 have M:=Bool.or_eq_false_iff.mp M
 ⟨⟨parts,ss,hc,hl,kG hp,hk,xy h2,U⟩,by grind,λd hd=>by
  rcases vP hd with rfl|hd
  .exact⟨rr,rr⟩
  grind,.inr ⟨of_decide_eq_false M.1,⟨day,_,rr,hd,N9,λe=>absurd e (of_decide_eq_false M.2)⟩,hi⟩⟩
def DC (x:Int×OI):(aO (iD x) && !Ej (iD x))=true:=by rw[jO];rfl
structure Dw (zs:List Str)(k day:Nat)(kind:Str)(aj:List D):Prop where
 dd:Dd kind aj
 g:∀h:Int,(day:Int)<=h->DeedG zs k h kind aj
 p:kind = "leave" \/ kind = "named"->∃a b p l,aj=a::b::.str p::l/\p∈zs.take 5
 b:kind ≠ "root"->∃d b l,aj=d::.str b::l/\b∈zs
def Pn {kind:Str}{P:Prop}(e:(decide (kind = "leave") || decide (kind = "named"))=false):kind = "leave" \/ kind = "named"->P:=N9
section
variable {zs:LS}(z7:Nm7 zs) {k day n:Nat}{jk sX:Str}(hd:day<16) (hb:jk∈zs)
include z7 hd hb
theorem Od (kind:Str)(hk:kind = "death" \/ kind = "lost" \/ kind = "found"):Dw zs k day kind [.int (day:Int),.str jk]:=by
 refine⟨.three _ hk _ _,λh hh=>?_,Pn (by rcases hk with rfl|rfl|rfl<;>decide +kernel),λ_=>⟨_,_,_,rr,hb⟩⟩
 rcases hk with rfl|rfl|rfl<;>exact Oc ["day","person"] [jk] bW rr (a7 (gW ⟨day,hd⟩) (a7 (Ae (z7.nm _ hb)) rr)) (by simp[BA,WP,Ym]) (by simpa using hb) rr hh
theorem BH (hn:n<30)(kind:Str)(hk:kind = "copy" \/ kind = "call"):Dw zs k day kind [.int (day:Int),.str jk,.int (n:Int)]:=by
 refine⟨.copy _ hk _ _ _,λh hh=>?_,Pn (by rcases hk with rfl|rfl<;>decide +kernel),λ_=>⟨_,_,_,rr,hb⟩⟩
 rcases hk with rfl|rfl<;>exact Oc ["day","by","of"] [jk] bW rr (a7 (gW ⟨day,hd⟩) (a7 (pe (z7.nm _ hb)) (a7 (Pm ⟨n,hn⟩) rr))) (by simp[BA,WP,ZR,Yn]) (by simpa using hb) rr hh
theorem Oe (ho:sX∈zs.take 5){m f:Nat}(hm:m∈MK){x:Int×OI}(hx:x∈Ob day)(hf:f<4):Dw zs k day "leave" [.int (day:Int),.str jk,.str sX,.int (m:Int),iD x,.int (f:Int)]:=by
 have M:=mem_of_mem_take ho;exact⟨.leave _ _ _ m (xp m hm) x _,λh hh=>Oc ["day","by","person","matters","stretch","further"] [jk,sX] bW rr (a7 (gW ⟨day,hd⟩) (a7 (pe (z7.nm _ hb)) (a7 (Ae (z7.nm _ M)) (a7 (sP m hm) (a7 (sQ ⟨day,hd⟩ x hx) (a7 (K3 ⟨f,hf⟩) rr)))))) Y9 (by simp[hb,M]) (by simp only[all_cons,DC];rfl) hh,λ_=>⟨_,_,_,_,rr,ho⟩,λ_=>⟨_,_,_,rr,hb⟩⟩
theorem Of (ho:sX∈zs){w:D}(hw:w=.non\/w=.str sX){m:Nat}(hm:m∈MK){x:Int×OI}(hx:x∈Ob day){p q:Str}(hp:p∈zs)(hq:q∈zs):Dw zs k day "paper" [.int (day:Int),.str jk,.int (m:Int),iD x,w,.tup [.str p,.str q]]:=by
 have M:=K5 (ps:=[p,q]) H9 H9 λz hz=>by
  rcases vP hz with rfl|hz
  .exact z7.nm _ hp
  .cases uT hz;exact z7.nm _ hq
 refine⟨.paper "paper" (.inl rr) _ _ m (xp m hm) x _ (by rcases hw with rfl|rfl<;>rfl) (by rcases hw with rfl|rfl<;>rfl),λh hh=>?_,Pn I9,λ_=>⟨_,_,_,rr,hb⟩⟩
 rcases hw with rfl|rfl
 .exact Oc ["day","by","matters","stretch","whom","pieces"] [jk] bW rr (a7 (gW ⟨day,hd⟩) (a7 (pe (z7.nm _ hb)) (a7 (sP m hm) (a7 (sQ ⟨day,hd⟩ x hx) (a7 BG (a7 M rr)))))) Y9 (by simpa using hb) (by simp only[all_cons,DC];rfl) hh
 .exact Oc ["day","by","matters","stretch","whom","pieces"] [jk,sX] bW rr (a7 (gW ⟨day,hd⟩) (a7 (pe (z7.nm _ hb)) (a7 (sP m hm) (a7 (sQ ⟨day,hd⟩ x hx) (a7 (VG (z7.nm _ ho)) (a7 M rr)))))) Y9 (by simp[hb,ho]) (by simp only[all_cons,DC];rfl) hh
theorem Sg {m:Nat}(hm:m∈MK){x:Int×OI}(hx:x∈Ob day)(hn:n<30){c:Nat}(hc:c<3){p:Str}(hp:p∈zs):Dw zs k day "like" [.int (day:Int),.str jk,.int (m:Int),iD x,.non,.int (n:Int),.tup [.tup [.int (c:Int),.str p]]]:=
 ⟨.paper _ (.inr rr) _ _ m (xp m hm) x _ rr rr,λh hh=>Oc ["day","by","matters","stretch","whom","of","changes"] [jk] bW rr (a7 (gW ⟨day,hd⟩) (a7 (pe (z7.nm _ hb)) (a7 (sP m hm) (a7 (sQ ⟨day,hd⟩ x hx) (a7 BG (a7 (Pm ⟨n,hn⟩) (a7 (Sf hc (z7.nm _ hp)) rr))))))) Y9 (by simpa using hb) (by simp only[all_cons,DC];rfl) hh,Pn I9,λ_=>⟨_,_,_,rr,hb⟩⟩
theorem DD (h5:jk∈zs.take 5)(ho:sX∈zs):Dw zs k day "named" [.int (day:Int),.str sX,.str jk]:=
 ⟨.named _ _ _,λh hh=>Oc ["day","office","person"] [jk] bW rr (a7 (gW ⟨day,hd⟩) (a7 (xq (z7.nm _ ho)) (a7 (Ae (z7.nm _ hb)) rr))) (by simp[BA,Yl,WP,Ym]) (by simpa using hb) rr hh,λ_=>⟨_,_,_,_,rr,h5⟩,λ_=>⟨_,_,_,rr,ho⟩⟩
theorem Sh (ho:sX∈zs){o:Str}(M:o∈zs):Dw zs k day "heir" [.int (day:Int),.str jk,.str o,.str sX]:=
 ⟨.heir _ _ _ _,λh hh=>Oc ["day","by","office","person"] [jk,sX] bW rr (a7 (gW ⟨day,hd⟩) (a7 (pe (z7.nm _ hb)) (a7 (xq (z7.nm _ M)) (a7 (Ae (z7.nm _ ho)) rr)))) (by simp[BA,Yl,WP,Ym,ZR]) (by simp[hb,ho]) rr hh,Pn I9,λ_=>⟨_,_,_,rr,hb⟩⟩
theorem K6 (ho:sX∈zs){o:Str}(M:o∈zs){s:Nat}(h1:day<=s)(h2:s<18):Dw zs k day "chosen" [.int (day:Int),.str jk,.str o,.str sX,.int (s:Int)]:=by
 refine⟨.chosen _ _ _ _ _,λh hh=>⟨⟨["day","by","office","person","since"],[jk,sX],bW,rr,kG (a7 (gW ⟨day,hd⟩) (a7 (pe (z7.nm _ hb)) (a7 (xq (z7.nm _ M)) (a7 (Ae (z7.nm _ ho)) (a7 (K4 ⟨s,h2⟩) rr))))),Y9,H9,by simp[hb,ho]⟩,H9,λd hd=>?_,.inr ⟨I9,⟨day,_,rr,hh,N9,λ_=>⟨_,_,_,s,rr,N9⟩⟩,bW⟩⟩,Pn I9,λ_=>⟨_,_,_,rr,hb⟩⟩;simp at hd;rcases hd with rfl|rfl|rfl|rfl|rfl<;>exact⟨rr,rr⟩
end
def cO {α:Type}(l:List α)(F:α->D){ρ:DL.Env}{fl fx:FE}{b:Bool}{a m:Int}(M:fl ρ=some (.lst (l.map F),b))(ex:fx ρ=sI a)(h0:0<m)(hm:m<=l.length):∃x∈l.take m.toNat,f2 eA fl (f2 iH fx (fI m)) ρ=some (F x,false):=by
 have h:=mod_lt (x:=a) h0;obtain⟨j,hj⟩:∃j:Nat,a % m=j:=⟨(a % m).toNat,N9⟩;have hl:j<l.length:=N9
 refine⟨l[j],List.mem_take_iff_getElem.mpr ⟨j,N9,rr⟩,eI M (hj ▸ im ex h0) ?_⟩;have:(l.map F)[j]? = some (F l[j]):=by simp_all
 simp[bi this]
def mN {zs:LS}(M:Nm7 zs)(j:Nat)(hj:j<7):∃z∈zs,∀ {ρ:DL.Env}{i:Nat},ρ[i]? = some (sL (zs.map .str))->gR i (j:Int) ρ=sS z:=by
 have hl:j<zs.length:=by rw[M.len];exact hj
 refine⟨zs[j],getElem_mem hl,λ{ρ i} h=>?_⟩;simp_all[bi]
def iC (r:D):Bool:=decide (kindOf r∈[("leave" : Str),"named"])
def WQ (zs:LS)(aa:LD):Prop:=(∀r∈aa,∃h kind aj,r=row h kind aj/\(kind = "leave" \/ kind = "named"->∃a b p l,aj=a::b::.str p::l/\p∈zs.take 5))/\∃r∈aa,iC r=true
def Af {zs:LS}(o:Nm7 zs){aa:LD}(g:WQ zs aa)(hl:aa.length<=100)(c:Int):∃p∈zs.take 5,nR [.lst aa,.int c,.lst (zs.map .str)]=sS p:=by
 have n:∀r∈aa,iC r=true->∃h k a b p l,r=row h k (a::b::.str p::l)/\ao 2 r=p/\p∈zs.take 5:=λr O hi=>by
  obtain⟨h,k,aj,rfl,hp⟩:=g.1 r O;have:k∈[("leave" : Str),"named"]:=xy hi;obtain⟨a,b,p,l,rfl,h5⟩:=hp (by simpa using this);exact⟨h,k,a,b,p,l,rr,rr,h5⟩
 have hc:=di (fi:=dn (am 0)) (nT:=1) (cap:=[]) (tg:=f7 0) (c:=bx (f2 A9 (f2 eA (gR 0 1) (fI 0)) (fA bX (ai (fS "leave") (ai (fS "named") av))))) (fe:=f2 eA (gR 0 1) (fI 3))
  (ρ:=[sL aa,sI c,sL (zs.map .str),none]) aa (λr=>r) iC (λr=>.str (ao 2 r)) H9 N9 λr O=>by
   obtain⟨h,k,aj,e,_⟩:=g.1 r O;refine⟨_,rr,cj (aX (.str k) (.tup [.str "leave",.str "named"]) ?_ (a0 [.str "leave",.str "named"] rr (aY _ H9)) ?_),λhi=>⟨false,?_⟩⟩
   .subst e;simp[bZ,row,ER,xC]
   .rw[show iC r=decide (k∈[("leave" : Str),"named"]) by subst e;rfl];exact gu _ [("leave" : Str),"named"]
   .obtain⟨h,k,a,b,p,l,rfl,e2,_⟩:=n r O hi;rw[e2];have h3:mQ (D.str k::a::b::.str p::l) 3=some (.str p):=by have:=iR (xs:=D.str k::a::b::.str p::l) (j:=3) H9;simpa using this
    simp[bZ,row,ER,h3]
 obtain⟨v,U,q⟩:=g.2;have w:0<(aa.filter iC).length:=List.length_pos_of_mem (mem_filter.mpr ⟨U,q⟩);have M:aZ ((aa.filter iC).map λr=>D.str (ao 2 r))=true:=br λd hd=>by obtain⟨x,_,rfl⟩:=vO hd;rfl
 by_cases h5:0<c % 5
 .have m1:(0:Int)<((aa.filter iC).length:Nat):=N9
  obtain⟨x,hx,ex⟩:∃x∈aa.filter iC,f2 eA (am 3) (f2 iH (f2 fj (am 1) (fI 5)) (fA lh (fV 3 av))) [sL aa,sI c,sL (zs.map .str),lT ((aa.filter iC).map λr=>.str (ao 2 r))]=some (.str (ao 2 x),false):=by
   obtain⟨j,hj⟩:∃j:Nat,c / 5 % ((aa.filter iC).length:Nat)=j:=⟨(c / 5 % ((aa.filter iC).length:Nat)).toNat,by have:=mod_lt (x:=c / 5) m1;lia⟩;have s:j<(aa.filter iC).length:=by have:=mod_lt (x:=c / 5) m1;lia
   refine⟨(aa.filter iC)[j],getElem_mem s,aX (.lst ((aa.filter iC).map λr=>.str (ao 2 r))) (.int j) rr (hj ▸ aX (.int (c / 5)) (.int ((aa.filter iC).length:Nat)) (sK rr O9 O9) (a0 [.lst ((aa.filter iC).map λr=>.str (ao 2 r))] (aP rr rr) (by rw[gK,vI])) (BD _ m1)) ?_⟩;have:((aa.filter iC).map λr=>D.str (ao 2 r))[j]? = some (.str (ao 2 (aa.filter iC)[j])):=by simp_all
   simp[bi this]
  obtain⟨f,t⟩:=vN hx;obtain⟨h,k,a,b,p,l,_,e2,i⟩:=n x f t;rw[e2]at ex;exact⟨p,i,ah rr (bE hc M (aW (cj (aX (.int (c % 5)) (.int 0) (im rr O9) rr s9)) (ak ex)))⟩
 .obtain⟨p,hp,u⟩:=cO zs D.str (ρ:=[sL aa,sI c,sL (zs.map .str),lT ((aa.filter iC).map λr=>.str (ao 2 r))]) (fl:=am 2) (fx:=f2 fj (am 1) (fI 5)) (b:=false) (a:=c / 5) (m:=5) rr (sK rr O9 O9) O9 (by rw[o.len];decide);exact⟨p,hp,ah rr (bE hc M (aq (cj (aX (.int (c % 5)) (.int 0) (im rr O9) rr s9)) (ak u)))⟩
noncomputable def lf:LS:=[("leave" : Str),"paper","like","copy","call"]
def lt4:∀f∈([3,2,2,1,0]:LN),f<4:=O9
def mk6:∀m∈([7,7,3,5,1,2]:LN),m∈MK:=O9
def Si {zs:LS}{p:Str}(h:p∈zs):R6 Yb (.lst (zs.map .str)) (.str p)=sI (nG zs p):=by
 show(dL _).bind _=_;rw[mD];show(if nG zs p<zs.length then _ else _)=_;simp_all[nG]
section
variable {zs:LS}(z7:Nm7 zs) {aa:LD}(g:WQ zs aa) (hl:aa.length<=21) (k day:Nat) (hd:day<16) (c:Int)
include z7 g hl hd
theorem Fz (M:Str)(hw:M∈lf):∃aj,rg [.lst aa,.str M,.int day,.int c,.lst (zs.map .str)]=sT (.str M::aj)/\Dw zs k day M aj:=by
 obtain⟨p,s,t⟩:=Af z7 g N9 c;have hp:p∈zs:=mem_of_mem_take s;obtain⟨m,hm,u⟩:=cO ([7,7,3,5,1,2]:LN) (λm=>.int (m:Int)) (ρ:=[sL aa,sS M,sI day,sI c,sL (zs.map .str),sS p,none,none,none,none]) (fl:=fA dJ (ai (fI 7) (ai (fI 7) (ai (fI 3) (ai (fI 5) (ai (fI 1) (ai (fI 2) av))))))) (fx:=f2 fj (am 3) (fI 40)) (b:=true) (a:=c / 40) (m:=6) (a0 [.int 7,.int 7,.int 3,.int 5,.int 1,.int 2] rr (cw _ H9)) (sK rr O9 O9) O9 O9;have hm:=mk6 m (mem_of_mem_take hm);obtain⟨x,hx,ex⟩:=cO (Ob day) iD (ρ:=[sL aa,sS M,sI day,sI c,sL (zs.map .str),sS p,sI m,none,none,none])
  (fl:=fA dJ (ai (fA bX (ai (fI 0) (ai (fC .non) av))) (ai (fA bX (ai (fI 0) (ai (fI 30) av))) (ai (fA bX (ai (fI 1) (ai (fI 20) av))) (ai (fA bX (fV 2 (ai (f2 gP (am 2) (fI 8)) av))) (ai (fA bX (ai (f2 gP (am 2) (fI 1)) (ai (fC .non) av))) (ai (fA bX (ai (fI 0) (ai (fI 40) av))) av)))))))
  (fx:=f2 fj (am 3) (fI 240)) (b:=true) (a:=c / 240) (m:=6) (a0 ((Ob day).map iD) (aP (a0 [.int 0,.non] rr (aY _ H9)) (aP (a0 [.int 0,.int 30] rr (aY _ H9)) (aP (a0 [.int 1,.int 20] rr (aY _ H9)) (aP (a0 [.int day,.int (day+8)] rr (aY _ H9)) (aP (a0 [.int (day+1),.non] rr (aY _ H9)) (aP (a0 [.int 0,.int 40] rr (aY _ H9)) rr)))))) (cw _ (by simp[Ob]))) (sK rr O9 O9) O9 (by simp[Ob])
 have hx:x∈Ob day:=mem_of_mem_take hx;let E:OB->OB->DL.Env:=λa b=>[sL aa,sS M,sI day,sI c,sL (zs.map .str),sS p,sI m,some (iD x,false),a,b];have O:∀w,bx (f2 jV (am 1) (fS w)) (E none none)=some (decide (M=w)):=λw=>cj (aX (.str M) (.str w) rr rr (NT _ _));have num:∀(q:Int),0<q->q<1073741824->∃n:Nat,n<30/\∀a b,f2 iH (f2 fj (am 3) (fI q)) (f2 gP (fA lh (fV 0 av)) (fI 1)) (E a b)=sI n:=λq v q2=>by
  have h:=mod_lt (x:=c / q) (m:=(aa.length:Int)+1) N9;refine⟨(c / q % ((aa.length:Int)+1)).toNat,N9,λa b=>?_⟩;rw[Int.toNat_of_nonneg h.1];exact aX (.int (c / q)) (.int (aa.length+1)) (sK rr v q2) (aX (.int aa.length) (.int 1) (a0 [.lst aa] rr gK) rr rr) (BD _ N9)
 obtain⟨n,hn,en⟩:=num 1440 O9 O9;obtain⟨n4,e,i⟩:=num 4320 O9 O9;obtain⟨l,h0,y⟩:=mN z7 0 O9;obtain⟨o,h1,z⟩:=mN z7 1 O9;obtain⟨r,h2,e2⟩:=mN z7 2 O9;obtain⟨U,h3,A⟩:=mN z7 3 O9;have dI:∀ {T:FS}{d:D},T (E none none)=some (.rt d false)->cx (dO 5 (fA nR (fV 0 (fV 3 (fV 4 av))))) (cx (dO 6 _) (cx (dO 7 _) T)) [sL aa,sS M,sI day,sI c,sL (zs.map .str),none,none,none,none,none]=some (.rt d false):=λB=>
  f9 (.str p) (a0 [.lst aa,.int c,.lst (zs.map .str)] rr t) rr (f9 (.int m) u rr (f9 (iD x) ex (jO _) B))
 simp only[lf,mem_cons,not_mem_nil,or_false]at hw;rcases hw with rfl|rfl|rfl|rfl|rfl
 .obtain⟨q,hq,eq⟩:=cO zs D.str (ρ:=E none none) (fl:=am 4) (fx:=f2 gP (f2 gP (f2 (R6 Yb) (am 4) (am 5)) (fI 1)) (f2 iH (f2 fj (am 3) (fI 1440)) (fI 4))) (b:=false) (a:=(nG zs p:Int)+1+c / 1440 % 4) (m:=5) rr
   (aX (.int ((nG zs p:Int)+1)) (.int (c / 1440 % 4)) (aX (.int (nG zs p)) (.int 1) (aX (.lst (zs.map .str)) (.str p) rr rr (Si hp)) rr rr) (im (sK rr O9 O9) O9) rr) O9 (by rw[z7.len];decide)
  obtain⟨f,hf,C⟩:=cO ([3,2,2,1,0]:LN) (λm=>.int (m:Int)) (ρ:=E (sS q) none) (fl:=fA dJ (ai (fI 3) (ai (fI 2) (ai (fI 2) (ai (fI 1) (ai (fI 0) av)))))) (fx:=f2 fj (am 3) (fI 5760)) (b:=true) (a:=c / 5760) (m:=5) (a0 [.int 3,.int 2,.int 2,.int 1,.int 0] rr (cw _ H9)) (sK rr O9 O9) O9 O9;exact⟨_,ah rr (dI (aW ((O "leave").trans I9) (f9 (.str q) eq rr (ak (a0 [.str "leave",.int day,.str p,.str q,.int m,iD x,.int f] (aP rr (aP rr (aP rr (aP rr (aP rr (aP rr (aP C rr))))))) (aY _ H9)))))),Oe z7 hd hp hq hm hx (lt4 f (mem_of_mem_take hf))⟩
 .obtain⟨w,hw,F⟩:=cO ([.non,.str l]:LD) id (ρ:=E none none) (fl:=fA dJ (ai (fC .non) (ai (gR 4 0) av))) (fx:=f2 fj (am 3) (fI 1440)) (b:=true) (a:=c / 1440) (m:=2) (a0 [.non,.str l] (aP rr (aP (y rr) rr)) (cw _ H9)) (sK rr O9 O9) O9 H9;have hw:w=.non\/w=.str l:=by grind
  exact⟨_,ah rr (dI (aq ((O "leave").trans I9) (aW ((O "paper").trans I9) (ak (a0 [.str "paper",.int day,.str p,.int m,iD x,w,.tup [.str o,.str r]] (aP rr (aP rr (aP rr (aP rr (aP rr (aP F (aP (a0 [.str o,.str r] (aP (z rr) (aP (e2 rr) rr)) (aY _ H9)) rr))))))) (aY _ H9)))))),Of z7 hd hp h0 hw hm hx h1 h2⟩
 .have G:=mod_lt (x:=c / 1440) (m:=3) O9;obtain⟨j,hj⟩:∃j:Nat,c / 1440 % 3=j:=⟨(c / 1440 % 3).toNat,N9⟩;exact⟨_,ah rr (dI (aq ((O "leave").trans I9) (aq ((O "paper").trans I9) (aW ((O "like").trans I9) (f9 (.tup [.tup [.int j,.str U]]) (a0 [.tup [.int j,.str U]] (aP (a0 [.int j,.str U] (aP (hj ▸ im (sK rr O9 O9) O9) (aP (A rr) rr)) (aY _ H9)) rr) (aY _ H9)) rr (ak (a0 [.str "like",.int day,.str p,.int m,iD x,.non,.int n4,.tup [.tup [.int j,.str U]]] (aP rr (aP rr (aP rr (aP rr (aP rr (aP rr (aP (i _ _) (aP rr rr)))))))) (aY _ H9)))))))),Sg z7 hd hp hm hx e N9 h3⟩
 .exact⟨_,ah rr (dI (aq ((O "leave").trans I9) (aq ((O "paper").trans I9) (aq ((O "like").trans I9) (ak (a0 [.str "copy",.int day,.str p,.int n] (aP rr (aP rr (aP rr (aP (en _ _) rr)))) (aY _ H9))))))),BH z7 hd hp hn "copy" (.inl rr)⟩
 .exact⟨_,ah rr (dI (aq ((O "leave").trans I9) (aq ((O "paper").trans I9) (aq ((O "like").trans I9) (ak (a0 [.str "call",.int day,.str p,.int n] (aP rr (aP rr (aP rr (aP (en _ _) rr)))) (aY _ H9))))))),BH z7 hd hp hn "call" (.inr rr)⟩
end
noncomputable def K7:LS:=[("leave" : Str),"leave","leave","paper","paper","paper","copy","copy","like","call","copy","chosen"]
noncomputable def W8:LS:=[("heir" : Str),"death","lost","found","named","leave","paper","leave"]
def le5:∀f∈([0,0,0,1,5]:LN),f<=5:=O9
def w20:∀w∈K7++W8,w∈lf\/w = "chosen" \/ w = "heir" \/ w = "named" \/ (w = "death" \/ w = "lost" \/ w = "found"):=I9
def pJ:∀w∈[("chosen" : Str),"heir","named","death","lost","found"],w∉lf:=I9
def Rg (zs:LS)(k:Nat)(r:D):Prop:=∃(h:Int)(kind:Str)(aj:LD)(day:Nat),r=row h kind aj/\(day:Int)<=h/\h<=9999/\(day:Int)<=9998/\Dw zs k day kind aj
section
variable {zs:LS}(z7:Nm7 zs) {aa:LD}(g:WQ zs aa) (hl:aa.length<=21) (k:Nat) (c:Int)
include z7 g hl
theorem Sj:∃r,CW [.lst aa,.int c,.lst (zs.map .str)]=some (r,false)/\Rg zs k r/\aD r=false:=by
 obtain⟨w,hw,z⟩:=cO (K7++W8) D.str (ρ:=[sL aa,sI c,sL (zs.map .str),lT ((K7++W8).map .str),none,none,none,none,none]) (fl:=am 3) (fx:=am 1) (b:=false) (a:=c) (m:=20) rr rr O9 O9;have hw:=w20 w (mem_of_mem_take hw);have I:=mod_lt (x:=c / 20) (m:=3) O9;obtain⟨day,A⟩:∃d:Nat,(aa.length:Int) / 2+c / 20 % 3=d:=⟨((aa.length:Int) / 2+c / 20 % 3).toNat,N9⟩;have hd:day<16:=N9
 have ed:f2 gP (f2 fj (fA lh (fV 0 av)) (fI 2)) (f2 iH (f2 fj (am 1) (fI 20)) (fI 3)) [sL aa,sI c,sL (zs.map .str),lT ((K7++W8).map .str),sS w,none,none,none,none]=sI day:=
  A ▸ aX (.int ((aa.length:Int) / 2)) (.int (c / 20 % 3)) (sK (a0 [.lst aa] rr gK) O9 O9) (im (sK rr O9 O9) O9) rr
 obtain⟨l,f,B⟩:=cO ([0,0,0,1,5]:LN) (λm=>.int (m:Int)) (ρ:=[sL aa,sI c,sL (zs.map .str),lT ((K7++W8).map .str),sS w,sI day,none,none,none]) (fl:=fA dJ (ai (fI 0) (ai (fI 0) (ai (fI 0) (ai (fI 1) (ai (fI 5) av)))))) (fx:=f2 fj (am 1) (fI 60)) (b:=true) (a:=c / 60) (m:=5) (a0 [.int 0,.int 0,.int 0,.int 1,.int 5] rr (cw _ H9)) (sK rr O9 O9) O9 O9;have f:=le5 l (mem_of_mem_take f);let E:OB->DL.Env:=λa=>[sL aa,sI c,sL (zs.map .str),lT ((K7++W8).map .str),sS w,sI day,sI ((day:Int)+l),sI (c / 300),a];have dI:∀ {T:FS}{d:D},T (E none)=some (.rt d false)->cx (dO 3 (fA dJ (ai (fS "leave") (ai (fS "leave") (ai (fS "leave") (ai (fS "paper") (ai (fS "paper") (ai (fS "paper") (ai (fS "copy") (ai (fS "copy") (ai (fS "like") (ai (fS "call") (ai (fS "copy") (ai (fS "chosen") av))))))))))))))
   (cx (dO 3 (f2 gP (am 3) (fA dJ (ai (fS "heir") (ai (fS "death") (ai (fS "lost") (ai (fS "found") (ai (fS "named") (ai (fS "leave") (ai (fS "paper") (ai (fS "leave") av))))))))))) (cx (dO 4 _) (cx (dO 5 _) (cx (dO 6 (f2 gP (am 5) _)) (cx (dO 7 (f2 fj (am 1) (fI 300))) T))))) [sL aa,sI c,sL (zs.map .str),none,none,none,none,none,none]=some (.rt d false):=λC=>
  bE (ds:=K7.map .str) (a0 (K7.map .str) rr (cw _ (by simp[K7]))) rr (bE (ds:=(K7++W8).map .str) (eI (x:=.lst (K7.map .str)) (y:=.lst (W8.map .str)) (b1:=false) (b2:=true) rr (a0 (W8.map .str) rr (cw _ (by simp[W8]))) rr) rr
   (f9 (.str w) z rr (f9 (.int day) ed rr (f9 (.int ((day:Int)+l)) (aX (.int day) (.int l) rr B rr) rr (f9 (.int (c / 300)) (sK rr O9 O9) rr C)))))
 have M:∀ {kind:Str}{aj:LD},Dw zs k day kind aj->decide (kind = "root")=false->∃r,r=row ((day:Int)+l) kind aj/\Rg zs k r/\aD r=false:=λ{kind aj} d j=>⟨_,rr,⟨_,kind,aj,day,rr,N9,N9,N9,d⟩,j⟩;have ti:bx (f2 A9 (am 4) (fA bX (ai (fS "leave") (ai (fS "paper") (ai (fS "like") (ai (fS "copy") (ai (fS "call") av))))))) (E none)=some (decide (w∈lf)):=cj (aX (.str w) (.tup (lf.map .str)) rr (a0 (lf.map .str) rr (aY _ (by simp[lf]))) (gu w lf));have O:∀v,bx (f2 jV (am 4) (fS v)) (E none)=some (decide (w=v)):=λv=>cj (aX (.str w) (.str v) rr rr (NT _ _));obtain⟨q,hq,eq⟩:=cO zs D.str (ρ:=E none) (fl:=am 2) (fx:=f2 fj (am 7) (fI 40)) (b:=false) (a:=c / 300 / 40) (m:=5) rr (sK rr O9 O9) O9 (by rw[z7.len];decide);have U:q∈zs:=mem_of_mem_take hq;obtain⟨h,h5,n⟩:=mN z7 5 O9;obtain⟨p,F,t⟩:=Af z7 g N9 (c / 300);have hp:p∈zs:=mem_of_mem_take F;rcases hw with hw|rfl|rfl|rfl|hw
 .obtain⟨aj,es,G⟩:=Fz z7 g hl k day hd (c / 300) w hw;have j:decide (w = "root")=false:=(by decide +kernel:∀w∈lf,decide (w = "root")=false) w hw;obtain⟨r,rfl,h1,h2⟩:=M G j;rw[ou hw]at ti;exact⟨_,ah rr (dI (aW ti (ak (a0 [.int ((day:Int)+l),.tup (.str w::aj)] (aP rr (aP (a0 [.lst aa,.str w,.int day,.int (c / 300),.lst (zs.map .str)] rr es) rr)) (aY _ H9))))),h1,h2⟩
 .obtain⟨s,hs⟩:∃s:Nat,(day:Int)+c / 300 / 200 % 3=s:=⟨((day:Int)+c / 300 / 200 % 3).toNat,N9⟩;have u:day<=s/\s<18:=N9
  obtain⟨r,rfl,h1,h2⟩:=M (K6 z7 hd hp U h5 u.1 u.2) I9;rw[xx (pJ _ I9)]at ti;exact⟨_,ah rr (dI (aq ti (aW ((O "chosen").trans I9) (f9 (.str p) (a0 [.lst aa,.int (c / 300),.lst (zs.map .str)] rr t) rr (ak (a0 [.int ((day:Int)+l),.tup [.str "chosen",.int day,.str p,.str h,.str q,.int s]] (aP rr (aP (a0 [.str "chosen",.int day,.str p,.str h,.str q,.int s] (aP rr (aP rr (aP rr (aP (n rr) (aP eq (aP (hs ▸ aX (.int day) (.int (c / 300 / 200 % 3)) rr (im (sK rr O9 O9) O9) rr) rr)))))) (aY _ H9)) rr)) (aY _ H9))))))),h1,h2⟩
 .obtain⟨r,rfl,h1,h2⟩:=M (Sh z7 hd hp U h5) I9;rw[xx (pJ _ I9)]at ti;exact⟨_,ah rr (dI (aq ti (aq ((O "chosen").trans I9) (aW ((O "heir").trans I9) (ak (a0 [.int ((day:Int)+l),.tup [.str "heir",.int day,.str p,.str h,.str q]] (aP rr (aP (a0 [.str "heir",.int day,.str p,.str h,.str q] (aP rr (aP rr (aP (a0 [.lst aa,.int (c / 300),.lst (zs.map .str)] rr t) (aP (n rr) (aP eq rr))))) (aY _ H9)) rr)) (aY _ H9))))))),h1,h2⟩
 .obtain⟨o,ho,H⟩:∃o∈zs,f2 eA (am 2) (f2 gP (fI 5) (f2 iH (f2 fj (am 7) (fI 5)) (fI 2))) (E none)=sS o:=by
   have m2:=mod_lt (x:=c / 300 / 5) (m:=2) O9;obtain⟨o,ho,e⟩:=RY (zs:=zs) (i:=5+c / 300 / 5 % 2) N9 (by rw[z7.len];lia);exact⟨o,ho,aX (.lst (zs.map .str)) (.int (5+c / 300 / 5 % 2)) rr (aX (.int 5) (.int (c / 300 / 5 % 2)) rr (im (sK rr O9 O9) O9) rr) e⟩
  obtain⟨r,rfl,h1,h2⟩:=M (DD z7 hd U hq ho) I9;rw[xx (pJ _ I9)]at ti;exact⟨_,ah rr (dI (aq ti (aq ((O "chosen").trans I9) (aq ((O "heir").trans I9) (aW ((O "named").trans I9) (ak (a0 [.int ((day:Int)+l),.tup [.str "named",.int day,.str o,.str q]] (aP rr (aP (a0 [.str "named",.int day,.str o,.str q] (aP rr (aP rr (aP H (aP eq rr)))) (aY _ H9)) rr)) (aY _ H9)))))))),h1,h2⟩
 .have hn:∀v∈[("chosen" : Str),"heir","named"],decide (w=v)=false:=by rcases hw with rfl|rfl|rfl<;>decide +kernel
  obtain⟨r,rfl,h1,h2⟩:=M (Od z7 hd U w hw) (by rcases hw with rfl|rfl|rfl<;>decide +kernel)
  rw[xx (pJ w (by grind))]at ti;exact⟨_,ah rr (dI (aq ti (aq ((O "chosen").trans (by rw[hn _ H9])) (aq ((O "heir").trans (by rw[hn _ H9])) (aq ((O "named").trans (by rw[hn _ H9])) (ak (a0 [.int ((day:Int)+l),.tup [.str w,.int day,.str q]] (aP rr (aP (a0 [.str w,.int day,.str q] (aP rr (aP rr (aP eq rr))) (aY _ H9)) rr)) (aY _ H9)))))))),h1,h2⟩
end
structure GR (zs:List Str)(aa:List D):Prop where
 at_:∀(j:Nat) r,aa[j]? = some r->Rg zs j r
 off:(mF aa).Nodup
 gv:∃r∈aa,iC r=true
def GR.snoc {zs:LS}{aa:LD}(g:GR zs aa){r:D}(M:Rg zs aa.length r)(O:(mF (aa++[r])).Nodup):GR zs (aa++[r]):=by
 refine⟨λj q h=>?_,O,g.gv.imp λq h=>⟨mem_append_left _ h.1,h.2⟩⟩;by_cases hj:j<aa.length
 .rw[getElem?_append_left hj]at h;exact g.at_ j q h
 .rw[getElem?_append_right N9]at h;obtain⟨h1,h2⟩:=vV h;have:j=aa.length:=by rw[length_singleton]at h1;lia
  subst this;simp at h2;subst h2;exact M
def GR.mem {zs:LS}{aa:LD}(g:GR zs aa){r:D}(h:r∈aa):∃k,Rg zs k r:=by
 obtain⟨j,hj⟩:=mem_iff_getElem?.mp h;exact⟨j,g.at_ j r hj⟩
def Rg.k {zs:LS}{k:Nat}{r:D}(g:Rg zs k r):bB r:=by
 obtain⟨h,kind,aj,day,rfl,_,_,_,d⟩:=g;exact⟨h,kind,aj,rr,d.dd⟩
def GR.flat {zs:LS}{aa:LD}(g:GR zs aa):aZ aa=true:=br λd hd=>by
 obtain⟨j,M⟩:=g.mem hd;exact M.k.flat
def GR.gvs {zs:LS}{aa:LD}(g:GR zs aa):WQ zs aa:=⟨λr M=>by
 obtain⟨j,h,kind,aj,day,rfl,_,_,_,d⟩:=g.mem M;exact⟨h,kind,aj,rr,d.p⟩,g.gv⟩
def ip4:gV ("rule" : Str)=false:=I9
def RL:LS:=[("open" : Str),"first","last"]
def VH:∀r∈RL,PV "rule" (.str r)=true:=I9
def Po:∀m∈[7,255,3],PV "matters" (.int ((m:Nat):Int))=true/\m∈MR:=I9
def K8 {zs:LS}(M:Nm7 zs)(k:Nat):off zs k∈zs:=by
 have:(if k=0 then 5 else 6)<zs.length:=by rw[M.len];split<;>decide
 simp_all[off]
def jS {zs:LS}(M:Nm7 zs)(j:Nat)(hj:j<7){ρ:DL.Env}{i:Nat}(h:ρ[i]? = some (sL (zs.map .str))\/ρ[i]? = some (lT (zs.map .str))):gR i (j:Int) ρ=sS (zs.getD j ""):=by
 have hl:j<zs.length:=by rw[M.len];exact hj
 have:(zs.map D.str)[j]? = some (.str (zs.getD j "")):=by simp_all
 rcases h with h|h<;>simp[h,bi this]
def K9:decide (("named" : Str)∈[("leave" : Str),"named"])=true:=I9
def VI (h:Int)(l:LD):aD (row h "root" l)=true:=ou rr
def VJ (h:Int)(l:LD):aD (row h "named" l)=false:=Y9
def KA {zs:LS}(M:Nm7 zs){k:Nat}(hk:k=0\/k=2){m f:Nat}(hm:m∈[7,255,3])(hf:f<4){rl:Str}(O:rl∈RL):Dw zs k 0 "root" [.str (off zs k),.int m,.int f,.str rl]:=
 ⟨.root _ _ m (Po m hm).2 _,λh _=>⟨⟨["office","matters","further","rule"],[],bW,rr,kG (a7 (xq (M.nm _ (K8 M k))) (a7 (Po m hm).1 (a7 (K3 ⟨f,hf⟩) (a7 (VH _ O) rr)))),by simp[BA,Yl,ip2,ip3,ip4],O9,H9⟩,H9,λd hd=>by
  simp [mem_cons,not_mem_nil,or_false]at hd;rcases hd with rfl|rfl|rfl|rfl<;>exact⟨rr,rr⟩,.inl ⟨rr,hk,_,rr⟩⟩,Pn I9,λz=>absurd rr z⟩
def VL {zs:LS}(M:Nm7 zs){m:Nat}(hm:m∈[7,255,3]){rl:Str}(O:rl∈RL){p:Str}(hp:p∈zs.take 5):GR zs [row 0 "root" [.str (off zs 0),.int m,.int (3:Nat),.str rl],row 0 "named" [.int (0:Nat),.str (off zs 0),.str p]]:=by
 refine⟨λj r h=>?_,by simp[mF,VI,VJ],_,mZ _ (mX ..),K9⟩;match j,h with
 |0,h=>cases h;exact⟨0,_,_,0,rr,O9,O9,O9,KA M (.inl rr) hm O9 O⟩
 |1,h=>cases h;exact⟨0,_,_,0,rr,O9,O9,O9,DD M O9 (mem_of_mem_take hp) hp (K8 M 0)⟩
def Yo {zs:LS}(M:Nm7 zs){m:Nat}(hm:m∈[7,255,3]){rl:Str}(O:rl∈RL){p:Str}(hp:p∈zs.take 5):GR zs [row 0 "root" [.str (off zs 0),.int m,.int (3:Nat),.str rl],row 0 "named" [.int (0:Nat),.str (off zs 0),.str p],row 1 "root" [.str (off zs 2),.int (7:Nat),.int (1:Nat),.str "open"]]:=by
 refine(VL M hm O hp).snoc ⟨1,_,_,0,rr,O9,O9,O9,KA M (.inr rr) O9 O9 I9⟩ ?_;have h:=Kt M;have:mF ([row 0 "root" [.str (off zs 0),.int m,.int (3:Nat),.str rl],row 0 "named" [.int (0:Nat),.str (off zs 0),.str p]]++[row 1 "root" [.str (off zs 2),.int (7:Nat),.int (1:Nat),.str "open"]])=[off zs 0,off zs 2]:=by
  rfl
 simp_all
def Sk {zs:LS}(M:Nm7 zs){k:Nat}{b p:Str}(hb:b∈zs)(hp:p∈zs):Dw zs k 4 "paper" [.int (4:Nat),.str b,.int (1:Nat),iD (0,none),.non,.tup [.str p]]:=
 ⟨.paper _ (.inl rr) _ _ 1 (xp 1 O9) _ _ rr rr,λh hh=>Oc ["day","by","matters","stretch","whom","pieces"] [b] bW rr (a7 (gW ⟨4,O9⟩) (a7 (pe (M.nm _ hb)) (a7 (sP 1 O9) (a7 (sQ ⟨4,O9⟩ _ O9) (a7 BG (a7 (K5 (ps:=[p]) H9 H9 (by simpa using M.nm _ hp)) rr)))))) Y9 (by simpa using hb) Y9 hh,Pn I9,λ_=>⟨_,_,_,rr,hb⟩⟩
def Og {ns:LI}(hf:Te ns){zs:LS}(U:Nm7 zs){aa:LD}(g:GR zs aa)(hl:aa.length<=21)(M:OB){i:Nat}(hi:i<=90):∃r,u6 [sL (ns.map .int),sL (zs.map .str),M,lT aa,sI i]=some (.nx [sL (ns.map .int),sL (zs.map .str),M,lT (aa++[r]),sI i])/\GR zs (aa++[r]):=by
 obtain⟨c,a⟩:=kF hf (3+i) N9;obtain⟨r,er,O,b⟩:=Sj U g.gvs hl _ _;have hn:(mF (aa++[r])).Nodup:=by rw[oe,b,if_neg O9,uQ];exact g.off
 refine⟨r,iT rr (a0 _ (aP rr (aP (aX _ _ (a0 _ (aP rr (aP (aX _ _ rr rr rr) rr)) a) (aX _ _ rr rr rr) (BD _ O9)) (aP rr rr))) er) O.k.flat (bq N9),g.snoc O hn⟩
def Oh {ns:LI}(F:ns.length<=63)(hf:Te ns){zs:LS}(M:Nm7 zs):∃aa,zb [.lst (ns.map .int),.lst (zs.map .str)]=lT aa/\GR zs aa/\aa.length<=22/\∃(n:Nat)(r:D),aa[n]? = some r/\kindOf r = "paper":=by
 obtain⟨c,y⟩:=kF hf 1 O9;obtain⟨m,hm,z⟩:=cO ([7,255,3]:LN) (λm=>.int (m:Int)) (ρ:=[sL (ns.map .int),sL (zs.map .str),sI c,none,none]) (fl:=fA dJ (ai (fI 7) (ai (fI 255) (ai (fI 3) av)))) (fx:=am 2) (b:=true) (a:=c) (m:=3) (a0 [.int 7,.int 255,.int 3] rr (cw _ H9)) rr O9 O9;obtain⟨rl,O,er⟩:=cO RL D.str (ρ:=[sL (ns.map .int),sL (zs.map .str),sI c,none,none]) (fl:=fA dJ (ai (fS "open") (ai (fS "first") (ai (fS "last") av)))) (fx:=f2 fj (am 2) (fI 3)) (b:=true) (a:=c / 3) (m:=3) (a0 (RL.map .str) rr (cw _ (by simp[RL]))) (sK rr O9 O9) O9 O9;have hm:=mem_of_mem_take hm;have O:=mem_of_mem_take O;have hp:zs.getD 0 "" ∈ zs.take 5:=by
  have h0:0<zs.length:=by rw[M.len];decide
  rw[vF,vU h0];exact List.mem_take_iff_getElem.mpr ⟨0,by rw[M.len];decide,rr⟩
 have f:∀ρ:DL.Env,ρ[1]? = some (sL (zs.map .str))->gR 1 5 ρ=sS (off zs 0):=λρ h=>jS M 5 O9 (.inl h);have v:∀ρ:DL.Env,ρ[1]? = some (sL (zs.map .str))->gR 1 6 ρ=sS (off zs 2):=λρ h=>jS M 6 O9 (.inl h);have l:∀ρ:DL.Env,ρ[1]? = some (sL (zs.map .str))->gR 1 0 ρ=sS (zs.getD 0 ""):=λρ h=>jS M 0 O9 (.inl h);obtain⟨R,hR⟩:∃R,R=row 0 "root" [.str (off zs 0),.int m,.int (3:Nat),.str rl]:=⟨_,rr⟩;obtain⟨N,p⟩:∃N,N=row 0 "named" [.int (0:Nat),.str (off zs 0),.str (zs.getD 0 "")]:=⟨_,rr⟩;have A:aO R=true:=by subst hR;rfl
 have B:aO N=true:=by subst p;rfl
 obtain⟨aa,s,G,e2⟩:∃aa,GR zs aa/\aa.length<=3/\∀ {T:FS}{res:Option Res},T [sL (ns.map .int),sL (zs.map .str),sI c,lT aa,none]=res ->
   cx (A6 (bx (f2 jV (f2 iH (f2 fj (am 2) (fI 9)) (fI 2)) (fI 1))) (v0 3 (fA bX (ai (fI 1) (ai (fA bX (ai (fS "root") (ai (gR 1 6) (ai (fI 7) (ai (fI 1) (ai (fS "open") av)))))) av)))) o4) T [sL (ns.map .int),sL (zs.map .str),sI c,lT [R,N],none]=res:=by
  have t:bx (f2 jV (f2 iH (f2 fj (am 2) (fI 9)) (fI 2)) (fI 1)) [sL (ns.map .int),sL (zs.map .str),sI c,lT [R,N],none]=some (decide (c / 9 % 2=1)):=cj (aX (.int (c / 9 % 2)) (.int 1) (im (sK rr O9 O9) O9) rr H9);by_cases h:c / 9 % 2=1
  .rw[ou h]at t;refine⟨[R,N,row 1 "root" [.str (off zs 2),.int (7:Nat),.int (1:Nat),.str "open"]],by subst hR;subst p;exact Yo M hm O hp,H9,λw=>cu (l5 t (iT (d:=row 1 "root" [.str (off zs 2),.int (7:Nat),.int (1:Nat),.str "open"]) (b:=false) rr (a0 [.int 1,.tup [.str "root",.str (off zs 2),.int 7,.int 1,.str "open"]] (aP rr (aP (a0 [.str "root",.str (off zs 2),.int 7,.int 1,.str "open"] (aP rr (aP (v _ rr) rr)) (aY _ H9)) rr)) (aY _ H9)) rr (bq H9))) w⟩
  .rw[xx h]at t;exact⟨[R,N],by subst hR;subst p;exact VL M hm O hp,H9,λw=>cu (iS t rr) w⟩
 obtain⟨n,hn,en⟩:∃n:Nat,n<=18/\f2 eA _ (f2 iH (f2 fj (am 2) (fI 18)) (fI 2)) [sL (ns.map .int),sL (zs.map .str),sI c,lT aa,none]=sI n:=by
  obtain⟨q,hq⟩:∃q:Nat,(if 5+(ns.length:Int) / 3<18 then 5+(ns.length:Int) / 3 else 18)=q:=⟨(if 5+(ns.length:Int) / 3<18 then 5+(ns.length:Int) / 3 else 18).toNat,by split<;>lia⟩
  have C:q<=18:=by split at hq<;>lia
  obtain⟨x,hx,ex⟩:=cO ([q,18]:LN) (λm=>.int (m:Int)) (ρ:=[sL (ns.map .int),sL (zs.map .str),sI c,lT aa,none]) (fl:=fA dJ (ai (fA UO (ai (fI 18) (ai (f2 gP (fI 5) (f2 fj (fA lh (fV 0 av)) (fI 3))) av))) (ai (fI 18) av))) (fx:=f2 fj (am 2) (fI 18)) (b:=true) (a:=c / 18) (m:=2)
   (a0 [.int q,.int 18] (aP (a0 [.int 18,.int (5+(ns.length:Int) / 3)] (aP rr (aP (aX (.int 5) (.int ((ns.length:Int) / 3)) rr (sK (a0 [.lst (ns.map .int)] rr (by rw[gK,vI])) O9 O9) rr) rr)) (by rw[<-hq];rfl)) rr) (cw _ H9)) (sK rr O9 O9) O9 H9
  have hx:=mem_of_mem_take hx;refine⟨x,?_,ex⟩;rcases vP hx with rfl|hx
  .exact C
  .grind
 obtain⟨ρ',e,rs,o,rfl,u,hs⟩:=qS (tg:=f7 4) (g:=u6) n (λi ρ=>∃(rs:LD)(o:OB),ρ=[sL (ns.map .int),sL (zs.map .str),sI c,lT rs,o]/\GR zs rs/\rs.length<=3+i)
  [sL (ns.map .int),sL (zs.map .str),sI c,lT aa,none] ⟨aa,none,rr,s,N9⟩ (by
   rintro i ρ hi ⟨rs,o,rfl,u,hs⟩;obtain⟨r,e,g'⟩:=Og hf M u N9 (sI c) (i:=i) N9;exact⟨_,_,rr,.inl e,rs++[r],_,rr,g',by rw[uZ,length_singleton];lia⟩)
 obtain⟨r,O⟩:∃r,r=row 9 "paper" [.int (4:Nat),.str (zs.getD 0 ""),.int (1:Nat),iD (0,none),.non,.tup [.str (zs.getD 3 "")]]:=⟨_,rr⟩;have h3:zs.getD 3 "" ∈ zs:=by
  have h0:3<zs.length:=by rw[M.len];decide
  rw[vF,vU h0];exact getElem_mem h0
 have s:Rg zs rs.length r:=O ▸ ⟨9,_,_,4,rr,O9,O9,O9,Sk M (mem_of_mem_take hp) h3⟩;have E:aD r=false:=by rw[O];rfl
 have U:v0 3 (fA bX (ai (fI 9) (ai (fA bX (ai (fS "paper") (ai (fI 4) (ai (gR 1 0) (ai (fI 1) (ai (fA bX (ai (fI 0) (ai (fC .non) av))) (ai (fC .non) (ai (fA bX (ai (gR 1 3) av)) av)))))))) av))) [sL (ns.map .int),sL (zs.map .str),sI c,lT rs,o]=some (.nx [sL (ns.map .int),sL (zs.map .str),sI c,lT (rs++[r]),o]):=by
  refine iT (d:=r) (b:=false) rr ?_ s.k.flat (bq N9);rw[O];exact a0 [.int 9,.tup [.str "paper",.int 4,.str (zs.getD 0 ""),.int 1,.tup [.int 0,.non],.non,.tup [.str (zs.getD 3 "")]]] (aP rr (aP (a0 [.str "paper",.int 4,.str (zs.getD 0 ""),.int 1,.tup [.int 0,.non],.non,.tup [.str (zs.getD 3 "")]] (aP rr (aP rr (aP (l _ rr) (aP rr (aP (a0 [.int 0,.non] rr (aY _ H9)) (aP rr (aP (a0 [.str (zs.getD 3 "")] (aP (jS M 3 O9 (.inl rr)) rr) (aY _ H9)) rr))))))) (aY _ H9)) rr)) (aY _ H9)
 refine⟨rs++[r],ah rr (f9 (.int c) (a0 [.lst (ns.map .int),.int 1] rr y) rr (bE (ds:=[R]) ?_ (by simp[A]) (cu (iT (ds:=[R]) (d:=N) (b:=false) rr ?_ B (bq H9)) (e2 (cu (qV (io (j:=n) (b:=false) en N9) e) (cu U (m5 rr))))))),u.snoc s (by rw[oe,E,if_neg O9,uQ];exact u.off),by rw[uZ,length_singleton];lia,rs.length,r,H9,by rw[O];rfl⟩
 .refine a0 [R] (aP (a0 [.int 0,.tup [.str "root",.str (off zs 0),.int m,.int 3,.str rl]] (aP rr (aP (a0 [.str "root",.str (off zs 0),.int m,.int 3,.str rl] (aP rr (aP (f _ rr) (aP z (aP rr (aP er rr))))) (aY _ H9)) rr)) ((aY _ H9).trans (by subst hR;rfl))) rr) (cw _ H9)
 .exact a0 [.int 0,.tup [.str "named",.int 0,.str (off zs 0),.str (zs.getD 0 "")]] (aP rr (aP (a0 [.str "named",.int 0,.str (off zs 0),.str (zs.getD 0 "")] (aP rr (aP rr (aP (f _ rr) (aP (l _ rr) rr)))) (aY _ H9)) rr)) ((aY _ H9).trans (by subst p;rfl))
def Sl {fi:DL.Env->Option LD}{tg:FG}{g:FS}{ρ:DL.Env}{ds:LD}{r:Option Res}(e:fi (jm ρ)=some ds)(k:f8 tg g ds ρ=r):xR fi tg g ρ=r:=by unfold xR;rw[e];exact k
theorem KE {α:Type}{p q:α->Bool}:∀ {l:List α},(∀x∈l,p x=q x)->l.any p=l.any q
 |[],_=>rr
 |x::l,h=>by rw[any_cons,any_cons,h x mX,KE λy hy=>h y (mZ _ hy)]
section
variable {aa:LD}(g:∀r∈aa,bB r) (hl:aa.length<=30) (hA:∀r∈aa,aG r<=9999) (hn:((bd (ag aa 9999)).map (ao 0)).Nodup) (ho:(bA (ag aa 9999)).length<=60)
include g hl hn ho
theorem F0 {v:D}(hv:v∈bd (ag aa 9999))(day:Int):rh [.tup aa,.int 9999,.str (ao 0 v),.int day]=some (gA (aE (ag aa 9999)) (ao 0 v) (ao 3 v) day,false):=by
 have U:dN _:=⟨N9,λr b=>(g r b).c⟩;obtain⟨d,M⟩:=ky U _ ho;have O:=EW hn hv;obtain⟨x,hx,rfl⟩:=vO hv;obtain⟨h1,h2⟩:=vN hx;obtain⟨a,o,rl,m,f,er,_,_⟩:=lD (g _ (vL (aB h1))) h2;have hf:=(g _ (vL (aB h1))).flat;refine ah rr (f9 x.1 (aX _ _ (a0 _ rr (mE U _)) rr ?_) hf (aq (cj (aX _ _ rr rr ?_)) (ak (a0 _ (a6 (a0 _ rr d) rr) ?_))))
 .show some ((bC _ _ _).getD _,false)=_;rw[show bC _ _ _=some x.1 from O];rfl
 .rw[er];rfl
 .rw[er];exact jd _ M _
theorem Oi {v:D}(hv:v∈bd (ag aa 9999))(day:Int)(p:Str){fh:FA}{i:Nat}{ρ:DL.Env}(O:fh ρ=some [.tup aa,.int 9999,.str (ao 0 v),.int day])(hp:ρ[i]? = some (sS p)):bx (f2 jV (M3 (fA rh fh) tV (qc (fI 2))) (fA bX (ai (fS "one") (fV i av)))) ρ=some (dv (aE (ag aa 9999)) (ao 0 v) (ao 3 v) p day):=by
 obtain⟨ds,e,hd⟩:=u7 _ _;have M:gA (aE (ag aa 9999)) (ao 0 v) _ day=.tup ds:=e;refine cj (aX (JF (gA (aE (ag aa 9999)) (ao 0 v) (ao 3 v) day)) (.tup [.str "one",.str p]) ?_ (by simp[hp,sizeLine]) ?_)
 .have hc:=a0 _ O (F0 g hl hn ho hv _);rw[M]at hc |-;unfold M3;rw[hc];rfl
 .unfold dv jV;rw[if_pos];rw[M];exact⟨kn (zf hd),kn H9⟩
def p0 (aa:LD)(r:D)(p:Str)(day:Int)(v:D):Bool:=aD v && ((!decide (kindOf r = "copy") && decide (gL v &&& gL r=gL r)) && dv (aE (ag aa 9999)) (ao 0 v) (ao 3 v) p day)
include hA
theorem Ol {n:Nat}{a:Int}{kind:Str}{aj:LD}(l:aa[n]? = some (row a kind aj))(I:kind∈aS)(p:Str)(day:Int):Db [.tup aa,.tup (.str kind::aj),.str p,.int day]=sO ((cW aa 9999 p day && fw aa 9999 p day) && gE (ag aa 9999) (bU day p n) (row a kind aj)):=by
 obtain⟨r,er⟩:∃r,r=row a kind aj:=⟨_,rr⟩;have N:bB r:=er ▸ g _ (vL l);obtain⟨Y,k',P,e2,dd⟩:=id N;rw[er]at e2;cases e2
 obtain⟨d0,M,h,eq⟩:=Ds dd (gD (.inl I));subst eq;let E:OB->OB->DL.Env:=λu v=>[sT aa,sT (.str kind::.int d0::.str M::h),sS p,sI day,u,v];have tl:iF (jh (bx (fA pE (fV 0 (ai (fI 9999) (fV 2 (fV 3 av))))))) (jh (bx (fA l7 (fV 0 (ai (fI 9999) (fV 2 (fV 3 av))))))) (E none none)=some (!cW aa 9999 p day || !fw aa 9999 p day):=
  bw (ba (cj (a0 [.tup aa,.int 9999,.str p,.int day] rr (rB aa (λr l=>(g r l).c.rp) N9 9999 p day)))) λ_=>ba (cj (a0 [.tup aa,.int 9999,.str p,.int day] rr (Di aa (λr l=>(g r l).c.rp) N9 9999 p day)))
 have tb:bx (f2 jV (am 2) (gR 1 2)) (E none none)=some (decide (p=M)):=cj (aX (.str p) (.str M) rr (aX (.tup (.str kind::.int d0::.str M::h)) (.int 2) rr rr ((DL.vn O9 (by show 2<_;simp)).trans rr)) (NT _ _));cases s:(cW aa 9999 p day && fw aa 9999 p day) with
 |false=>exact ah rr (aW (tl.trans (by revert s;cases cW aa 9999 p day<;>cases fw aa 9999 p day<;>simp)) (ak rr))
 |true=>
  have F:=tl.trans (show _=some false by revert s;cases cW aa 9999 p day<;>cases fw aa 9999 p day<;>simp)
  have J:cP (bU day p n)=p:=rr;have t:cP (row a kind (.int d0::.str M::h))=M:=rr;cases U:decide (p=M) with
  |true=>
   have:gE (ag aa 9999) (bU day p n) (row a kind (.int d0::.str M::h))=true:=by unfold gE;rw[J,t,U];rfl
   rw[this];exact ah rr (aq F (aW (tb.trans (by rw[U])) (ak rr)))
  |false=>
   have hm:gE (ag aa 9999) (bU day p n) (row a kind (.int d0::.str M::h))=aa.any (p0 aa r p day):=by
    unfold gE;rw[J,t,U,Bool.false_or,sw,List.any_filter,er,show aA (bU day p n)=day from rr];cases A:decide (kindOf (row a kind (.int d0::.str M::h)) = "copy") with
    |true=>
     rw[Bool.not_true,Bool.false_and];refine(any_eq_false.mpr λv _=>?_).symm;unfold p0;rw[A];simp
    |false=>
     rw[Bool.not_false,Bool.true_and];refine KE λv hv=>?_;unfold p0;rw[A,ou (hA v hv),Bool.and_true];rfl
   have step:∀(i:Nat)(v:D)(ρ:DL.Env),aa[i]? = some v->(∃u w,ρ=E u w)->∃j,FD [4,5] v ρ=some j/\(((!p0 aa r p day v)=true/\∃ρ',rj j=some (.nx ρ')/\∃u w,ρ'=E u w)\/((!p0 aa r p day v)=false/\rj j=some (.rt (.bl true) false))):=by
    rintro i v ρ hv ⟨u,w,rfl⟩;have gv:=g v (vL hv);obtain⟨O,k1,x,rfl,d1⟩:=id gv;have fl:aO (.tup (.str k1::x))=true:=by have:=d1.flat;simpa using this
    refine⟨E (sI O) (sT (.str k1::x)),by simp[row,E],?_⟩;have G:bx (f2 jV (gR 5 0) (fS "root")) (E (sI O) (sT (.str k1::x)))=some (decide (k1 = "root")):=bL (a:=k1) (bb:=false) (by simp[E,xC]) rr;cases B:decide (k1 = "root") with
    |false=>
     have hz:p0 aa r p day (row O k1 x)=false:=by unfold p0;rw[show aD (row O k1 x)=decide (k1 = "root")from rr,B];rfl
     rw[hz];exact .inl ⟨rr,_,iS ((bO (q:=false) G λz=>by rw[B]at z;cases z).trans (by rw[Bool.and_false])) rr,_,_,rr⟩
    |true=>
     obtain⟨Z,o,rl,m,f,Q,R,H⟩:=lD gv B;cases Q
     have S:row O ("root" : Str) [.str o,.int m,.int f,.str rl]∈bd (ag aa 9999):=by
      rw[sw];exact mem_filter.mpr ⟨vL hv,by rw[ou (hA _ (vL hv))];rfl⟩
     have T:bx (f2 wg (gR 1 0) (fS "copy")) (E (sI O) (sT [.str "root",.str o,.int m,.int f,.str rl]))=some (!decide (kind = "copy")):=By (a:=kind) (bb:=false) (by simp[E,xC]);have C:=Oi g hl hn ho S day p (fh:=fV 0 (ai (fI 9999) (ai (gR 5 1) (fV 3 av)))) (i:=2) (ρ:=E (sI O) (sT [.str "root",.str o,.int m,.int f,.str rl])) (aP rr (aP rr (aP (by simp[E,ER];rfl) rr))) rr;have Ai:p0 aa r p day (row O ("root" : Str) [.str o,.int m,.int f,.str rl])=((!decide (kind = "copy") && decide (m &&& gL r=gL r)) && dv (aE (ag aa 9999)) o rl p day):=by
      unfold p0;rw[H,show kindOf r=kind by rw[er];rfl];rfl
     have C:bx _ (E (sI O) (sT [.str "root",.str o,.int m,.int f,.str rl]))=some (dv (aE (ag aa 9999)) o rl p day):=C;have K:fg (bx (f2 wg (gR 1 0) (fS "copy"))) (bx (fA iz (ai (gR 5 2) (ai (f2 eA (am 1) (f2 gP (fI 3) (fA Vf (ai (f2 jV (gR 1 0) (fS "leave")) av)))) av)))) (E (sI O) (sT [.str "root",.str o,.int m,.int f,.str rl]))=some (!decide (kind = "copy") && decide (m &&& gL r=gL r)):=by
      refine bO T λA=>cj (a0 [.int m,.int (gL r)] (aP (by simp[E];rfl) (aP ?_ rr)) (oh _ _));have V:kind∈cY:=(show ∀k∈aS,k ≠ "copy"->k∈cY by decide +kernel) _ I (by simpa using A);obtain⟨_,_,h3,h4⟩:=JM (a:=a) dd V;rw[<-er]at h3;refine aX (.tup (.str kind::.int d0::.str M::h)) (.int ((3+if kind = "leave" then 1 else 0:Nat):Int)) rr (aX (.int 3) (.int (if decide (kind = "leave")=true then 1 else 0)) rr (a0 [.bl (decide (kind = "leave"))] (aP (aX (.str kind) (.str "leave") (by simp[E,xC]) rr (NT _ _)) rr) rr) ?_) ?_
      .by_cases W:kind = "leave"<;>simp[W]
      .have:=bi (aa:=D.str kind::.int d0::.str M::h) (i:=3+if kind = "leave" then 1 else 0) (r:=.int (gL r)) (by
        rw[<-h3,vF,vU h4];rfl)
       show(mQ _ _).map _=_;rw[this];rfl
     rw[Ai];cases hx:(!decide (kind = "copy") && decide (m &&& gL r=gL r)) with
     |false=>exact .inl ⟨rr,_,iS ((bO G λ_=>K).trans (by rw[hx,Bool.and_false])) rr,_,_,rr⟩
     |true=>
      have L:=(bO G λ_=>K).trans (show _=some true by rw[hx,B];rfl);cases hy:dv (aE (ag aa 9999)) o rl p day with
      |false=>exact .inl ⟨rr,_,l5 L (iS (C.trans (by rw[hy])) rr),_,_,rr⟩
      |true=>exact .inr ⟨rr,l5 L (l5 (C.trans (by rw[hy])) (ak rr))⟩
   have y:=tb.trans (show _=some false by rw[U]);rw[hm,Bool.true_and];rcases J5 (tg:=FD [4,5]) (g:=rj) (d:=.bl true) (b:=false) (λ_ ρ=>∃u w,ρ=E u w) (λi=>!p0 aa r p day (aa.getD i .non)) aa (E none none) ⟨_,_,rr⟩ (λi v ρ hv X=>by
     have e:aa.getD i .non=v:=by rw[vF,hv];rfl
     rw[e];exact step i v ρ hv X)with⟨h1,ρ',e,u,w,rfl⟩|⟨⟨i,hi,h1⟩,e⟩
   .have:aa.any (p0 aa r p day)=false:=any_eq_false.mpr λv hv=>by
     obtain⟨i,hi⟩:=mem_iff_getElem?.mp hv;have:=h1 i (vV hi).1;rw[vF,hi]at this;simpa using this
    rw[this];exact ah rr (aq F (aq y (cu (fG (ds:=aa) rr e) (ak rr))))
   .have:aa.any (p0 aa r p day)=true:=any_eq_true.mpr ⟨aa.getD i .non,by rw[vF,vU hi];exact getElem_mem hi,by simpa using h1⟩;rw[this];refine ah rr (aq F (aq y (V4 ?_)));exact Sl (ρ:=E none none) (ds:=aa) rr e
end
theorem uM:∀(l M:LI),(M++l).Nodup->l.foldl gQ M=M++l
 |[],M,_=>by simp
 |x::l,M,h=>by
  have hx:=λz=>by
   rw[nodup_append]at h;exact h.2.2 x z x (mX ..) rr
  rw[foldl_cons,show gQ M x=M++[x] by unfold gQ;rw[if_neg hx],uM l _ (by simpa using h)];simp
theorem uO:∀xs:LI,jy (xs.map .int)=some xs
 |[]=>rr
 |x::xs=>by simp[jy,uO xs]
def KG {S:LN}(h:S.Nodup)(hl:S.length<=60):qM (.lst (aM S))=lT (aM S):=by
 have M:(S.map λ(n:Nat)=>(n:Int)).Nodup:=pairwise_map.mpr (h.imp λh e=>h N9);have hp:=a9 (λn=>[n]) (S.map λ(n:Nat)=>(n:Int));have hn:(ft _).Nodup:=hp.nodup_iff.mpr M;have e:eB (ft _)=ft _:=uM _ [] (by simpa using hn);show(jy ((ft _).map _)).bind _=_;rw[uO,vJ,if_pos (by unfold ft;rw[hp.length_eq,vI];lia),e];have:ft _=ft (S.map λ(n:Nat)=>(n:Int)):=ny _ _ _ (λx _ y _ e=>by injection e) (a9 _ _) (bR _ _) (bR _ _);rw[this];rfl
def sR {n:Int}{L:LI}(h:n∈L):dE (.int n) (.lst (L.map .int))=sO false:=by
 have M:(L.map D.int).all fY=true:=by
  rw[all_eq_true];intro d hd;obtain⟨x,_,rfl⟩:=vO hd;rfl
 have:∀L:List _,n∈L->FC _ (L.map .int)=true:=λL=>by
  induction L with
  |nil=>intro h;cases h
  |cons x L O=>
   intro h;show(dm _ _ || FC (.int n) _)=true;rcases vP h with rfl|h
   .simp
   .rw[O h,Bool.or_true]
 simp only[dE,fm,vJ];rw[if_pos ⟨rr,M⟩,this L h];rfl
def BI {m:Nat}{S:LN}(h:m∈S):dE (.int (m:Int)) (.lst (aM S))=sO false:=by
 exact sR ((a9 _ _).mem_iff.mpr (uS ⟨m,h,rr⟩))
def Om (n:Nat)(l:List Rs):n∉fF n l:=λh=>by
 rcases fP _ _ _ h with z|z
 .cases z
 .obtain⟨p,hp,e⟩:=vO z;obtain⟨q,hq,rfl⟩:=vO hp;have:=(vN hq).2;unfold WO at this;rw[ou (show q.1=n from e)]at this;cases this
section
variable {aa:LD}(g:∀r∈aa,bB r) (hl:aa.length<=30) (hn:((bd (ag aa 9999)).map (ao 0)).Nodup) (ho:(bA (ag aa 9999)).length<=60)
include g hl hn ho
theorem KH (n:Nat)(day:Int):kj [.tup aa,.int n,.int day,.lst (aM (aJ aa 9999 day))]=sO true:=by
 have s:=sC g hl 9999 hn ho day n;have M:bN ((cH aa 9999 day).map sW)=aJ aa 9999 day:=by
  unfold cH aJ;rw[uP];rfl
 obtain⟨Z,a⟩:∃Z,Z=mK n (cH aa 9999 day):=⟨_,rr⟩;have O:∀m∈Z,m∈aJ aa 9999 day:=λm hm=>by
  rw[a]at hm;exact M ▸ (vN hm).1
 have w:(aJ aa 9999 day).Nodup:=M ▸ xm _ _ nodup_nil (by rw[uP];exact iB 9999 day) λm hm=>by cases hm
 have j:Z.Nodup:=by rw[a];unfold mK;rw[M];exact w.sublist filter_sublist
 have l:Z.length<=60:=by rw[a];unfold mK;rw[M];exact vR (vM _ _) (oj hl 9999 day)
 have z:decide (n∈Z)=decide (n∈aJ aa 9999 day):=decide_eq_decide.mpr ⟨O n,λh=>by
  rw[a];exact mem_filter.mpr ⟨M.symm ▸ h,by rw[xx (Om n _)];rfl⟩⟩
 rw[<-a]at s;generalize hS:aJ aa 9999 day=S at *;let E:Bool->OB->DL.Env:=λb v=>[sT aa,sI n,sI day,sL (aM S),some (.lst (aM Z),b),v];have t:iF (jh (bx (fA jw (fV 4 (ai (fC (.ty "list")) av))))) (iF (bx (f2 wg (f1 qM (am 4)) (am 4))) (bx (f2 wg (f2 A9 (am 1) (am 4)) (f2 A9 (am 1) (am 3))))) (E true none)=some false:=by
  refine(bw (p:=false) (q:=false) (ba (p:=true) (cj (a0 [.lst (aM Z),.ty "list"] rr H9))) λ_=>(bw (p:=false) (q:=false) (b9 (b:=false) (eI (x:=.lst (aM Z)) (y:=.lst (aM Z)) (b1:=true) (b2:=false) (zR (x:=.lst (aM Z)) (b:=false) rr (KG j l)) rr (jQ (lI _)))) λ_=>cj (aX (.bl (decide (n∈Z))) (.bl (decide (n∈Z))) (aX (.int n) (.lst (aM Z)) rr rr (D3 n Z)) (aX (.int n) (.lst (aM S)) rr rr ((D3 n S).trans (by rw[z]))) (jQ H9))))
 obtain⟨ρ',e,v,rfl⟩:=dW (tg:=f7 5) (g:=Bn) (λ_ ρ=>∃v,ρ=E false v) (aM Z) (E false none) ⟨none,rr⟩ (by
  rintro i d ρ hd ⟨v,rfl⟩;have hm:=vL hd;rw[je]at hm;obtain⟨o,A,rfl⟩:=vO hm;have f:=kE.mp A;have U:=O o f;obtain⟨r,B,_⟩:=Kg (hS.symm ▸ U:o∈aJ aa 9999 day);obtain⟨ns,c,k,hk⟩:=Kj g day ((ag aa 9999).length+1) o r B (hS.symm ▸ U) (Nat.lt_succ_of_le (vM _ _));have C:ns.length<=100:=by have:=bM aa 9999;lia
  have u:=Fh g hl 9999 hn ho day k C;have F:=B8 (n:=n) g (by rw[<-a];exact f) k;have G:((o::ns).map (λ(m:Nat)=>D.int (m:Int))++[D.int c]).reverse=(((o::ns).map λ(m:Nat)=>(m:Int))++[c]).reverse.map .int:=H9
  rw[G]at u;refine⟨_,_,rr,.inl (iS ((bw (p:=false) (q:=false) (cj (aX (.int o) (.lst (aM S)) rr rr (BI U))) λ_=>b9 (b:=false) (eI (x:=.int n) (b1:=false) (b2:=true) rr (a0 [.tup aa,.int 9999,.int day,.int o] rr u) (sR ?_)))) rr),_,rr⟩;rw[List.mem_reverse];exact mem_append_left _ (uS ⟨n,F,rr⟩))
 exact ah rr (bE (ds:=aM Z) (a0 [.tup aa,.int 9999,.int day,.int n] rr s) (kB _) (aq t (cu (show Vd [4] _ _=_ from fG (ρ:=E false none) rr e) (ak rr))))
end
def Sm (K:KL)(M:Nat)(r:D)(day:Int)(c:D):Bool:=decide (kindOf c = "call") && (decide (dz 2 c=M) && (decide (aA c<=day) && (gB K c && gE K c r)))
def Sn (K:KL)(day:Int)(x:D×Nat):Bool:=(gB K x.1 && decide (aA x.1<=day)) && (K.filter λy=>Sm K x.2 x.1 day y.1).isEmpty
noncomputable def KI (K:KL)(x:D×Nat)(n:Nat):Bool:=K.any λy=>decide (y.2=n) && (decide (kindOf y.1∈eZ) && bv y x)
def VM (K:KL)(x:D×Nat):List Bs:=if kindOf x.1 = "copy" then (if KI K x (dz 2 x.1).toNat=true then [(none,dz 2 x.1)]else [])else Bv K (aE K) x.1 x.2
def VN (K:KL)(day:Int):LN:=bN (((bA K).filter λx=>decide (kindOf x.1∈aS) && Sn K day x).map λx=>(x.2,VM K x))
def uR {aa:LD}{ae:Int}{r:D}(h:aG r<=ae):c9 aa ae r=gB (ag aa ae) r:=by
 unfold c9 gB;rw[ou h];rfl
def KJ (aa:LD)(ae:Int)(x:D×Nat)(n:Nat):jP aa ae x.1 x.2 n=KI (ag aa ae) x n:=by
 rw[Bool.eq_iff_iff];unfold jP KI;rw[any_eq_true];constructor
 .intro h;split at h
  .cases h
  .rename_i q hq;rw[vC,vC]at h;refine⟨(q,n),mem_filter.mpr ⟨mem_zipIdx_iff_getElem?.mpr hq,h.1.1⟩,?_⟩;simp_all
 .rintro⟨y,hy,h⟩;rw[vC]at h;have e:=xy h.1;subst e;have hk:=(vN hy).2;rw[aB hy];simp_all
def vc (aa:LD)(ae day:Int):aJ aa ae day=VN (ag aa ae) day:=by
 have M:∀x∈ag aa _,aG _<=ae:=λx hx=>xy (vN hx).2;have h1:∀x∈ag _ _,kindOf _∈aS->pz _ _ _ x=Sn _ _ x:=λx hx hb=>by
  unfold pz Sn lH;rw[if_pos ⟨M x hx,hb⟩,List.isEmpty_map,uR (M x hx)];rw[filter_congr λy hy=>(show iA _ _ _ _ _ _=Sm _ _ _ day y.1 by unfold iA Sm;rw[uR (M y hy)])]
 unfold aJ VN fH;rw[filter_congr λx hx=>by
  have hm:=(vN ((a9 _ _).mem_iff.mp hx)).1;by_cases hb:kindOf x.1∈aS
  .rw[h1 x hm hb]
  .simp_all]
 congr 1;refine List.map_congr_left λx _=>?_;unfold cG mI VM;rw[KJ]
def xr (S:LN)(q:Nat->Bool):sx (S.filter q)=(sx S).filter q:=
 (dS _ (λx _ y _ e=>by lia) ((a9 _ _).filter q) (List.Pairwise.filter _ (bR _ _))).symm
def KN {f:FT}{ρ:DL.Env}{i:Nat}{cap:LN}(S:LN)(hS:S.length<=60)(p:Nat->Bool){b:Bool}(e:ρ[i]? = some (some (.lst (aM S),b)))(h:∀n∈S,f (bZ 1 cap ρ |>.set 0 (sI (n:Int)))=some (p n)):fW (dn (am i)) 1 cap (f7 0) f (am 0) ρ=lT (aM (S.filter p)):=by
 have:=di (fi:=dn _) (tg:=f7 0) (fe:=am 0) _ _ p (λ(n:Nat)=>.int (n:Int)) (by
   show(am i ρ).bind _=_;simp only[am,e];show some _=_;rw[je]) (by unfold sx;rw[(a9 _ _).length_eq];lia) λn hn=>⟨_,rr,h n (kE.mp hn),λ_=>⟨false,by simp[bZ]⟩⟩
 rw[this,je,xr]
section
variable {zs:LS}{aa:LD}(g:GR zs aa)
include g
theorem KO (M:Nm7 zs)(hl:aa.length<=24)(d:D)(hd:d=.lst aa\/d=.tup aa):eW [d]=some (.tup aa,false):=by
 refine Ac ⟨⟨N9,M⟩,λj r h=>?_⟩ g.flat d hd;obtain⟨a,kind,aj,day,rfl,h1,h2,O,d⟩:=g.at_ j r h;exact⟨a,kind,aj,rr,N9,h2,d.g _ h1⟩
theorem GR.rk:∀r∈aa,bB r:=λr M=>by obtain⟨j,O⟩:=g.mem M;exact O.k
theorem GR.hd:∀r∈aa,aG r<=9999:=λr M=>by
 obtain⟨j,h,kind,aj,day,rfl,_,O,_⟩:=g.mem M;exact O
theorem GR.nd (ae:Int):((bd (ag aa ae)).map (ao 0)).Nodup:=List.Nodup.sublist (Kd _ _) g.off
end
def lL {aa:LD}(hl:aa.length<=30)(ae:Int):(bA (ag aa ae)).length<=60:=by
 unfold bA;rw[(a9 _ _).length_eq];exact vR (vM _ _) (vR (bM _ _) N9)
def KP (cs:List Cl):aQ 40 (.lst (cs.map aT))=true:=by
 show(cs.map _).all _=true;rw[all_eq_true];intro d hd;obtain⟨c,_,rfl⟩:=vO hd;obtain⟨o,p,s,u,n⟩:=c;cases u<;>rfl
def xu {aa:LD}{c:D}{ae:Int}(h:¬aG c<=ae)(d:Int):aJ (aa++[c]) ae d=aJ aa ae d:=by
 have e:ag (aa++[c]) ae=ag aa ae:=by
  unfold ag;rw[List.zipIdx_append];simp[h]
 rw[vc,vc,e]
def Oo (m:Nat)(Z:LN):dE (.int (m:Int)) (.lst (aM Z))=sO (!decide (m∈Z)):=by
 have M:((sx Z).map λ(n:Nat)=>D.int (n:Int)).all fY=true:=H9
 rw[je];simp only[dE,fm,vJ];rw[if_pos ⟨rr,M⟩,zG,xi];exact congrArg (λb=>sO _) (decide_eq_decide.mpr kE)
section
variable {zs:LS}(z7:Nm7 zs) {aa:LD}(g:GR zs aa) (hl:aa.length<=22) {n:Nat}{a:Int}{kind:Str}{aj:LD}(hr:aa[n]? = some (row a kind aj)) (kr:kind∈aS) {day:Nat}(hd:day<16) {p:Str}(hp:p∈zs)
include z7 g hl hr hd hp
theorem DE:GR zs (aa++[bU day p n]):=by
 have hn:=(vV hr).1;refine g.snoc ⟨day,_,_,day,rr,Int.le_refl _,N9,N9,BH z7 hd hp N9 _ (.inr rr)⟩ ?_;rw[oe,show aD _=false from rr,if_neg O9,uQ];exact g.off
include kr
abbrev lE (ns:LI)(zs:LS)(aa:LD)(L:LN)(n:Nat)(kind:Str)(aj:LD)(day:Nat)(p:Str)(G:Bool)(b:Bool)(M O U c:OB):DL.Env:=[sL (ns.map .int),some (.lst (zs.map .str),b),some (.lst aa,b),sT aa,some (.lst (L.map λ(m:Nat)=>.int (m:Int)),b),sI n,sT (.str kind::aj),sI day,sS p,sT (aa++[bU day p n]),sO G,M,O,U,c]
theorem KQ (ns:LI)(L:LN)(M:Int)(b:Bool)(H j v:OB):∃r s O,J0 (lE ns zs aa L n kind aj day p ((cW aa 9999 p day && fw aa 9999 p day) && gE (ag aa 9999) (bU day p n) (row a kind aj)) b (sI M) H j v)=some (.nx (lE ns zs aa L n kind aj day p ((cW aa 9999 p day && fw aa 9999 p day) && gE (ag aa 9999) (bU day p n) (row a kind aj)) false (sI M) r s O)):=by
 have w:=DE z7 g hl hr hd hp;have c:aa.length<=30:=N9
 have A:(aa++[bU day p n]).length<=30:=by rw[uZ,length_singleton];lia
 have s1:=λae d=>pb g.rk c ae (g.nd ae) (lL c ae) d;have s2:=λae d=>pb w.rk A ae (w.nd ae) (lL A ae) d;have B:=sC g.rk c 9999 (g.nd 9999) (lL c 9999) M n;have C:=KH g.rk c (g.nd 9999) (lL c 9999) n M;have hS:=oj (aa:=aa) c 9999 M;have k:=Kr (cH aa 9999 M) (iB 9999 M) n;have I:bN ((cH aa 9999 M).map sW)=aJ aa 9999 M:=by
  unfold cH aJ;rw[uP];rfl
 rw[I]at k;have D:(c9 aa 9999 (bU day p n) && gE (ag aa 9999) (bU day p n) (row a kind aj))=((cW aa 9999 p day && fw aa 9999 p day) && gE (ag aa 9999) (bU day p n) (row a kind aj)):=by
  have:c9 aa 9999 (bU day p n)=(cW aa 9999 p day && fw aa 9999 p day):=by
   show((decide ((day:Int)<=9999) && c8 ("call" : Str)) && _)=_;rw[ou (show(day:Int)<=9999 by lia),show c8 ("call" : Str)=true by decide +kernel];rfl
  rw[this]
 have d9:(day:Int)<=9999:=N9
 have l:aJ (aa++[bU day p n]) 9999 M=if((cW aa 9999 p day && fw aa 9999 p day) && gE (ag aa 9999) (bU day p n) (row a kind aj))=true/\(day:Int)<=M then fF n (cH aa 9999 M)else aJ aa 9999 M:=by
  split
  .rename_i h;exact B6 d9 h.2 hr (D.trans h.1)
  .rename_i h;by_cases h1:(day:Int)<=M
   .exact Fl d9 M hr (D.trans (by rw[Bool.eq_false_iff];exact λz=>h ⟨z,h1⟩))
   .exact zO d9 N9
 generalize ((cW aa 9999 p day && fw aa 9999 p day) && gE (ag aa 9999) (bU day p n) (row a kind aj))=G at *;obtain⟨S,t⟩:∃S,S=aJ aa 9999 M:=⟨_,rr⟩;obtain⟨T,J⟩:∃T,T=aJ (aa++[bU day p n]) 9999 M:=⟨_,rr⟩;have es:=s1 9999 M;have E:=s2 9999 M;rw[<-t]at es C hS k l;rw[<-J]at E l;have K:∀(U:Bool)(O:OB),iF (bx (f2 wg (fA gn (fV 9 (ai (fI 9999) (fV 11 av)))) (am 13))) (jh (bx (fA kj (fV 3 (fV 5 (fV 11 (fV 12 av))))))) (lE ns zs aa L n kind aj day p G false (sI M) (sL (aM S)) (some (.lst (aM T),U)) O)=some false:=λU O=>bw (p:=false) (q:=false) (b9 (b:=false) (eI (x:=.lst (aM T)) (y:=.lst (aM T)) (b1:=true) (b2:=false) (a0 [.tup (aa++[bU day p n]),.int 9999,.int M] rr E) rr (jQ (lI _)))) λ_=>ba (p:=true) (cj (a0 [.tup aa,.int n,.int M,.lst (aM S)] rr C));have N:∀(U:Bool)(O:OB),fg (bx (f2 SU (am 7) (fI 0))) (bx (f2 wg (fA gn (fV 9 (ai (f2 Mn (am 7) (fI 1)) (fV 11 av)))) (fA gn (fV 3 (ai (f2 Mn (am 7) (fI 1)) (fV 11 av)))))) (lE ns zs aa L n kind aj day p G false (sI M) (sL (aM S)) (some (.lst (aM T),U)) O)=some false:=λU O=>by
  refine(bO (p:=decide ((day:Int) > 0)) (q:=false) (cj (aX (.int day) (.int 0) rr rr H9)) λ_=>b9 (b:=false) (eI (x:=.lst (aM (aJ aa ((day:Int) - 1) M))) (y:=.lst (aM (aJ aa ((day:Int) - 1) M))) (b1:=true) (b2:=true) (a0 [.tup (aa++[bU day p n]),.int ((day:Int) - 1),.int M] rr ((s2 _ _).trans (by rw[xu (show ¬aG (bU day p n)<=(day:Int) - 1 by show ¬(day:Int)<=(day:Int) - 1;lia)]))) (a0 [.tup aa,.int ((day:Int) - 1),.int M] rr (s1 _ _)) (jQ (lI _)))).trans ?_;rw[Bool.and_false]
 have dI:∀(U:Bool)(O:OB),cx (A6 _ (xP (fC (.bl false))) o4) (A6 _ (xP (fC (.bl false))) o4) (lE ns zs aa L n kind aj day p G false (sI M) (sL (aM S)) (some (.lst (aM T),U)) O)=some (.nx (lE ns zs aa L n kind aj day p G false (sI M) (sL (aM S)) (some (.lst (aM T),U)) O)):=λU O=>aq (K U O) (iS (N U O) rr);have tg:∀(j O:OB),fg (bx (am 10)) (bx (f2 WJ (am 11) (am 7))) (lE ns zs aa L n kind aj day p G false (sI M) (sL (aM S)) j O)=some (G && decide (M ≥ (day:Int))):=λj O=>bO (b9 (b:=false) rr) λ_=>cj (aX (.int M) (.int day) rr rr H9);have go:∀O:OB,∃U u,cx (A6 (fg (bx (am 10)) (bx (f2 WJ (am 11) (am 7)))) (cx (dO 14 (fA nQ (fV 3 (ai (fI 9999) (fV 11 (fV 5 av)))))) (dO 13 (fW (dn (am 12)) 1 [14] (f7 0) (bx (f2 dE (am 0) (am 1))) (am 0)))) o4) _ (lE ns zs aa L n kind aj day p G false (sI M) (sL (aM S)) (sL (aM S)) O)=some (.nx (lE ns zs aa L n kind aj day p G false (sI M) (sL (aM S)) (some (.lst (aM T),U)) u)):=λO=>by
  cases i:(G && decide (M ≥ (day:Int))) with
  |false=>
   have o:T=S:=by
    rw[l,if_neg];rintro⟨h1,h2⟩;rw[h1,ou (show M ≥ (day:Int)from h2)]at i;cases i
   have f:=dI false O;rw[o]at f;rw[o];exact⟨false,O,aq ((tg _ _).trans (by rw[i])) f⟩
  |true=>
   have F:=(vC _ _ ▸ i:G=true/\decide (M ≥ (day:Int))=true);have o:aM T=aM (fF n (cH aa 9999 M)):=by rw[l,if_pos ⟨F.1,xy F.2⟩]
   obtain⟨Z,P⟩:∃Z,Z=mK n (cH aa 9999 M):=⟨_,rr⟩;rw[<-P]at B k;have Q:fW (dn (am 12)) 1 [14] (f7 0) (bx (f2 dE (am 0) (am 1))) (am 0) (lE ns zs aa L n kind aj day p G false (sI M) (sL (aM S)) (sL (aM S)) (lT (aM Z)))=lT (aM T):=by
    rw[KN S hS (λm=>!decide (m∈Z)) (b:=false) rr λm _=>cj (aX (.int m) (.lst (aM Z)) rr rr (Oo m Z)),k,o]
   refine⟨true,lT (aM Z),cu (l5 ((tg _ _).trans (by rw[i])) (bE (ds:=aM Z) (a0 [.tup aa,.int 9999,.int M,.int n] rr B) (kB _) (pD Q (kB _)))) (dI true (lT (aM Z)))⟩
 obtain⟨U,u,e⟩:=go (v.map λy=>(y.1,false));exact⟨sL (aM S),some (.lst (aM T),U),u,bE (ds:=aM S) (a0 [.tup aa,.int 9999,.int M] rr es) (kB _) (Im (d:=.lst (aM S)) (b:=false) rr rr (.inl rr) e)⟩
end
def law_true (ns:LI)(Ln:ns.length<=63)(hf:Te ns):∃b,F_law [.lst (ns.map .int)]=some (.bl true,b):=by
 obtain⟨V,e0⟩:=kF hf 0 O9;obtain⟨U,v⟩:=kF hf 24 O9;obtain⟨w,A⟩:=kF hf 25 O9;obtain⟨B,C⟩:=kF hf 26 O9;obtain⟨zs,ez,l⟩:=K2 V;obtain⟨aa,er,g,hl,n0,r0,F,k0⟩:=Oh Ln hf l;let E:=λv4 v5 v6 v7 v8 v9 H=>[sL (ns.map .int),lT (zs.map .str),lT aa,sT aa,v4,v5,v6,v7,v8,v9,H,none,none,none,none];have hc:=di (fi:=iJ (fA lh (fV 2 av))) (nT:=1) (cap:=[2]) (tg:=f7 0) (c:=bx (f2 A9 (f2 eA (f2 eA (f2 eA (am 1) (am 0)) (fI 1)) (fI 0)) (fA bX (ai (fS "leave") (ai (fS "paper") (ai (fS "like") (ai (fS "copy") av))))))) (fe:=am 0)
  (ρ:=E none none none none none none none) aa.zipIdx (λx=>.int x.2) (λx=>decide (kindOf x.1∈aS)) (λx=>.int x.2)
  (by rw[io (j:=aa.length) (b:=false) (a0 [.lst aa] rr gK) N9,uy,List.range_eq_range',uP,<-List.zipIdx_map_snd 0 aa,uP];rfl) s9 λx hx=>by
   have ha:=bi (mem_zipIdx_iff_getElem?.mp hx);obtain⟨j,h,k,aj,dd,e,_⟩:=g.mem (List.fst_mem_of_mem_zipIdx hx);refine⟨_,rr,cj (aX (.str k) (.tup (aS.map .str)) ?_ (a0 (aS.map .str) rr (aY _ (by simp[aS]))) ?_),λ_=>⟨false,by simp[bZ]⟩⟩
   .rw[e]at ha;simp[E,bZ,ha,row,ER,xC]
   .rw[e];exact gu k aS
 obtain⟨L,I⟩:∃L:LN,L=(aa.zipIdx.filter λx=>decide (kindOf x.1∈aS)).map (·.2):=⟨_,rr⟩;have hc:fW (iJ (fA lh (fV 2 av))) 1 [2] (f7 0) (bx (f2 A9 (f2 eA (f2 eA (f2 eA (am 1) (am 0)) (fI 1)) (fI 0)) (fA bX (ai (fS "leave") (ai (fS "paper") (ai (fS "like") (ai (fS "copy") av))))))) (am 0) (E none none none none none none none)=lT (L.map λ(m:Nat)=>.int (m:Int)):=by rw[hc,I,uP];rfl
 have Lc:aZ (L.map λ(m:Nat)=>D.int (m:Int))=true:=br λd hd=>by obtain⟨x,_,rfl⟩:=vO hd;rfl
 have W:(0:Int)<(L.length:Nat):=by
  have:n0∈L:=by
   rw[I];exact uS ⟨(r0,n0),mem_filter.mpr ⟨mem_zipIdx_iff_getElem?.mpr F,ou (by rw[k0];decide +kernel)⟩,rr⟩
  have:=List.length_pos_of_mem this;lia
 have hm:=mod_lt (x:=U) W;obtain⟨j,hj⟩:∃j:Nat,U % (L.length:Nat)=j:=⟨(U % (L.length:Nat)).toNat,N9⟩;have X:j<L.length:=N9
 obtain⟨n,hn⟩:∃n,n=L[j]:=⟨_,rr⟩;obtain⟨r,f,o⟩:∃r,aa[n]? = some r/\kindOf r∈aS:=by
  have:n∈L:=hn ▸ getElem_mem X;rw[I]at this;obtain⟨x,hx,e⟩:=vO this;obtain⟨h1,h2⟩:=vN hx;refine⟨x.1,?_,xy h2⟩;have h3:=mem_zipIdx_iff_getElem?.mp h1;rw[show x.2=n from e]at h3;exact h3
 have e5:f2 eA (am 4) (f2 iH (fA fu (fV 0 (ai (fI 24) av))) (fA lh (fV 4 av))) (E (lT (L.map λ(m:Nat)=>.int (m:Int))) none none none none none none)=sI n:=by
  refine aX (.lst (L.map λ(m:Nat)=>.int (m:Int))) (.int j) rr (hj ▸ aX (.int U) (.int (L.length:Nat)) (a0 [.lst (ns.map .int),.int 24] rr v) (a0 [.lst (L.map λ(m:Nat)=>.int (m:Int))] rr (by rw[gK,vI])) (BD _ W)) ?_;have:(L.map λ(m:Nat)=>D.int (m:Int))[j]? = some (.int n):=by rw[vA,vU X,hn];rfl
  show(mQ _ _).map _=_;rw[bi this];rfl
 obtain⟨a,kind,aj,d0,rfl,_,_,_,Y⟩:=g.at_ n r f;have o:kind∈aS:=o;obtain⟨d1,Z,q0,eq,J⟩:=Y.b (λz=>by rw[z]at o;revert o;decide +kernel);have ar:=bi f;have fd:aO (.tup (.str kind::aj))=true:=by have:=Y.dd.flat;simpa using this
 have e6:f2 eA (f2 eA (am 2) (am 5)) (fI 1) (E (lT (L.map λ(m:Nat)=>.int (m:Int))) (sI n) none none none none none)=sT (.str kind::aj):=by simp[E,ar,row,ER]
 have m16:=mod_lt (x:=w) (m:=16) O9;obtain⟨day,x0⟩:∃d:Nat,w % 16=d:=⟨(w % 16).toNat,N9⟩;have hd:day<16:=N9
 have e7:f2 iH (fA fu (fV 0 (ai (fI 25) av))) (fI 16) (E (lT (L.map λ(m:Nat)=>.int (m:Int))) (sI n) (sT (.str kind::aj)) none none none none)=sI day:=x0 ▸ im (a0 [.lst (ns.map .int),.int 25] rr A) O9;have O:fA fu (fV 0 (ai (fI 26) av)) (E (lT (L.map λ(m:Nat)=>.int (m:Int))) (sI n) (sT (.str kind::aj)) (sI day) none none none)=sI B:=a0 [.lst (ns.map .int),.int 26] rr C;obtain⟨z1,Ps,K⟩:=cO zs D.str (ρ:=E (lT (L.map λ(m:Nat)=>.int (m:Int))) (sI n) (sT (.str kind::aj)) (sI day) none none none) (fl:=am 1) (fx:=f2 fj (fA fu (fV 0 (ai (fI 26) av))) (fI 3)) (b:=false) (a:=B / 3) (m:=5) rr (sK O O9 O9) O9 (by rw[l.len];decide);have N:zs.getD 0 "" ∈ zs:=by
  have h0:0<zs.length:=by rw[l.len];decide
  rw[vF,vU h0];exact getElem_mem h0
 obtain⟨p,hp,ep⟩:=cO ([Z,z1,zs.getD 0 ""]:LS) D.str (ρ:=E (lT (L.map λ(m:Nat)=>.int (m:Int))) (sI n) (sT (.str kind::aj)) (sI day) none none none) (fl:=fA dJ (ai (gR 6 2) (ai (f2 eA (am 1) (f2 iH (f2 fj (fA fu (fV 0 (ai (fI 26) av))) (fI 3)) (fI 5))) (ai (gR 1 0) av)))) (fx:=fA fu (fV 0 (ai (fI 26) av))) (b:=true) (a:=B) (m:=3) (a0 [.str Z,.str z1,.str (zs.getD 0 "")] (aP (aX (.tup (.str kind::aj)) (.int 2) rr rr (by rw[eq];exact(DL.vn O9 (by show 2<_;simp)).trans rr)) (aP K (aP (jS l 0 O9 (.inr rr)) rr))) (cw _ H9)) O O9 H9;have hp:p∈zs:=by
  have hp:=mem_of_mem_take hp;rcases vP hp with rfl|hp
  .exact J
  .rcases vP hp with rfl|hp
   .exact mem_of_mem_take Ps
   .rw[uT hp];exact N
 have P:=DE l g hl f hd hp;have Ag:(aa++[bU day p n]).length<=24:=by rw[uZ,length_singleton];lia
 have e9:fA eW (ai (f2 gP (am 2) (fA dJ (ai (fA bX (fV 7 (ai (fA bX (ai (fS "call") (fV 7 (fV 8 (fV 5 av))))) av))) av))) av) (E (lT (L.map λ(m:Nat)=>.int (m:Int))) (sI n) (sT (.str kind::aj)) (sI day) (sS p) none none)=sT (aa++[bU day p n]):=by
  refine a0 [.lst (aa++[bU day p n])] (a6 (b:=true) (eI (x:=.lst aa) (y:=.lst [bU day p n]) (b1:=false) (b2:=true) rr (a0 [bU day p n] (aP (a0 [.int day,.tup [.str "call",.int day,.str p,.int n]] (aP rr (aP (a0 [.str "call",.int day,.str p,.int n] rr (aY _ H9)) rr)) (aY _ H9)) rr) (cw _ H9)) ?_) rr) (KO P l Ag _ (.inl rr));exact if_pos (cD (by rw[length_singleton];lia))
 have Q:aa.length<=30:=N9
 have Xd:=Ol g.rk Q g.hd (g.nd 9999) (lL Q 9999) f o p day;have gC:dN aa:=⟨N9,λr f=>(g.rk r f).c⟩;have R:dN (aa++[bU day p n]):=⟨N9,λr f=>(P.rk r f).c⟩;have d9:aG (bU day p n)<=9999:=by show(day:Int)<=9999;lia
 have S:=(ky gC 9999 (lL Q 9999)).1;have q:=(ky R 9999 (lL N9 9999)).1;rw[xl (om (.inl rr)) d9]at q;have F4:=KQ l g hl f o hd hp ns L;generalize ((cW aa 9999 p day && fw aa 9999 p day) && gE (ag aa 9999) (bU day p n) (row a kind aj))=G at Xd F4;have t1:bx (f2 wg (fA m8 (fV 3 (ai (fI 9999) av))) (fA m8 (fV 9 (ai (fI 9999) av)))) (lE ns zs aa L n kind aj day p G true none none none none)=some false:=b9 (b:=false) (eI (x:=.lst ((aE (ag aa 9999)).map aT)) (y:=.lst ((aE (ag aa 9999)).map aT)) (b1:=true) (b2:=true) (a0 [.tup aa,.int 9999] rr S) (a0 [.tup (aa++[bU day p n]),.int 9999] rr q) (jQ (KP _)));let M:LI:=[0,if(day:Int) - 1 > 0 then (day:Int) - 1 else 0,day,day+1,day+3,20];have eM:fA dJ (ai (fI 0) (ai (fA UN (ai (fI 0) (ai (f2 Mn (am 7) (fI 1)) av))) (fV 7 (ai (f2 gP (am 7) (fI 1)) (ai (f2 gP (am 7) (fI 3)) (ai (fI 20) av)))))) (jm (lE ns zs aa L n kind aj day p G true none none none none))=lT (M.map .int):=a0 (M.map .int) (aP rr (aP (a0 [.int 0,.int ((day:Int) - 1)] rr rr) rr)) (cw _ (by simp[M]));obtain⟨ρ',e,b,T,s,t,u,rfl⟩:=dW (tg:=f7 11) (g:=J0) (λ_ ρ=>∃(b:Bool)(T s t u:OB),ρ=lE ns zs aa L n kind aj day p G b T s t u) (M.map .int) (lE ns zs aa L n kind aj day p G true none none none none) ⟨_,_,_,_,_,rr⟩ (by
  rintro i d ρ S8 ⟨b,T,s,t,u,rfl⟩;rw[vA]at S8;obtain⟨x,_,rfl⟩:=oY S8;obtain⟨w12,w13,w14,e⟩:=F4 x b s t u;exact⟨_,_,rr,.inl e,_,_,_,_,_,rr⟩)
 refine⟨false,ah rr (bE (ds:=zs.map .str) (a0 [.int V] (aP (a0 [.lst (ns.map .int),.int 0] rr e0) rr) ez) (cV _) (bE (ds:=aa) (a0 [.lst (ns.map .int),.lst (zs.map .str)] rr er) g.flat (f9 (.tup aa) (a0 [.lst aa] (a6 (b:=true) (a0 [.lst aa] rr rr) rr) (KO g l N9 _ (.inl rr))) (by simp[g.flat]) (bE hc Lc (f9 (.int n) e5 rr (f9 (.tup (.str kind::aj)) e6 fd (f9 (.int day) e7 rr (f9 (.str p) ep rr (f9 (.tup (aa++[bU day p n])) e9 (by simp[P.flat]) (f9 (.bl G) (a0 [.tup aa,.tup (.str kind::aj),.str p,.int day] rr Xd) rr (aq t1 (cu (show Vd [7] _ _=_ from fG (ρ:=lE ns zs aa L n kind aj day p G true none none none none) (ds:=M.map .int) ?_ e) (ak rr)))))))))))))⟩;show(fA dJ _ _).bind _=_;rw[eM];rfl
end Lw
namespace Lw
open PySem PySem.Spec PyProof.Rows L2 DL
structure Tx (w:World)(K:Frag)(mg:Str->Option Value):Prop where
 hX:∃h,K.In h/\h.Ns mainGlobals mg
 d0:bQ K "is_whole" (aR 6)
 d1:bQ K "is_day" (aR 7)
 d2:bQ K "is_stretch" (aR 8)
 d3:bQ K "is_matters" (aR 12)
 d4:bQ K "is_name" (aR 22)
 d5:bQ K "is_rule" (aR 24)
 d6:bQ K "is_piece" (aR 23)
 d7:bQ K "is_pieces" (aR 25)
 d8:bQ K "is_change" (aR 26)
 d9:bQ K "is_changes" (aR 27)
 d10:bQ K "is_part" (aR 28)
 d11:bQ K "is_deed" (aR 29)
 d12:bQ K "word_of" (aR 32)
 d13:bQ K "part_of" (aR 33)
 d14:bQ K "day_of" (aR 34)
 d15:bQ K "is_timely" (aR 30)
 d16:bQ K "is_row" (aR 31)
 d17:bQ K "root_offices" (aR 39)
 d18:bQ K "is_second_root" (aR 40)
 d19:bQ K "parts_in" (aR 35)
 d20:bQ K "people_in" (aR 36)
 d21:bQ K "count_people" (aR 41)
 d22:bQ K "is_refused" (aR 42)
 d23:bQ K "register_of" (aR 43)
 d24:bQ K "heard" (aR 44)
 d25:bQ K "rank" (aR 46)
 d26:bQ K "in_order" (aR 48)
 d27:bQ K "by_office" (aR 60)
 d28:bQ K "roots" (aR 49)
 d29:bQ K "is_known" (aR 45)
 d30:bQ K "tells" (aR 52)
 d31:bQ K "told_of" (aR 53)
 d32:bQ K "lives" (aR 54)
 d33:bQ K "has_seal" (aR 55)
 d34:bQ K "is_sound" (aR 56)
 d35:bQ K "lies_in" (aR 9)
 d36:bQ K "is_alive" (aR 58)
 d37:bQ K "by_since" (aR 59)
 d38:bQ K "chief_of" (aR 61)
 d39:bQ K "holder_by" (aR 62)
 d40:bQ K "is_held_by" (aR 63)
 d41:bQ K "is_first_death" (aR 64)
 d42:bQ K "counts" (aR 65)
 d43:bQ K "new_claim" (aR 66)
 d44:bQ K "ended" (aR 67)
 d45:bQ K "after_choice" (aR 68)
 d46:bQ K "inherited" (aR 69)
 d47:bQ K "after_death" (aR 70)
 d48:bQ K "claims" (aR 71)
 d49:bQ K "is_paper" (aR 75)
 d50:bQ K "is_leave" (aR 76)
 d51:bQ K "is_borne" (aR 77)
 d52:bQ K "covers" (aR 13)
 d53:bQ K "reach_bar" (aR 81)
 d54:bQ K "office_bar" (aR 82)
 d55:bQ K "office_bases" (aR 85)
 d56:bQ K "ends_within" (aR 11)
 d57:bQ K "is_within" (aR 10)
 d58:bQ K "is_ahead" (aR 47)
 d59:bQ K "leave_bar" (aR 83)
 d60:bQ K "leaves_to" (aR 84)
 d61:bQ K "leave_bases" (aR 86)
 d62:bQ K "copy_bases" (aR 87)
 d63:bQ K "bases_by" (aR 88)
 d64:bQ K "may_call" (aR 78)
 d65:bQ K "calls_in" (aR 79)
 d66:bQ K "calls_by" (aR 80)
 d67:bQ K "is_fit" (aR 89)
 d68:bQ K "links" (aR 90)
 d69:bQ K "bears" (aR 91)
 d70:bQ K "stood" (aR 92)
 d71:bQ K "standing" (aR 93)
 d72:bQ K "leaning" (aR 97)
 d73:bQ K "_law_cell" (aR 99)
 d74:bQ K "_law_names" (aR 100)
 d75:bQ K "_law_giver" (aR 101)
 d76:bQ K "_law_sealed" (aR 102)
 d77:bQ K "_law_row" (aR 103)
 d78:bQ K "_law_rows" (aR 104)
 d79:bQ K "holder" (aR 72)
 d80:bQ K "_law_may" (aR 105)
 d81:bQ K "first_bearer" (aR 94)
 d82:bQ K "chain" (aR 95)
 d83:bQ K "_law_leans" (aR 106)
 d84:bQ K "law" (aR 107)
 n0:mg "all" = none
 n1:mg "any" = none
 n2:mg "bool" = none
 n3:mg "dict" = none
 n4:mg "enumerate" = none
 n5:mg "int" = none
 n6:mg "isinstance" = none
 n7:mg "len" = none
 n8:mg "list" = none
 n9:mg "max" = none
 n10:mg "min" = none
 n11:mg "range" = none
 n12:mg "reversed" = none
 n13:mg "set" = none
 n14:mg "sorted" = none
 n15:mg "str" = none
 n16:mg "tuple" = none
 n17:mg "zip" = none
 k0:KC K mg "ALL_MATTERS" kT
 k1:KC K mg "LAST_DAY" qW
 k2:KC K mg "MOST_FURTHER" j7
 k3:KC K mg "MOST_LETTERS" j8
 k4:KC K mg "MOST_PEOPLE" kU
 k5:KC K mg "MOST_PIECES" gS
 k6:KC K mg "MOST_ROWS" j9
 k7:KC K mg "PAPERS" yX
 k8:KD w K mg "PARTS" bV
 k9:KC K mg "PERSON_PARTS" gd
 k10:KC K mg "RULES" CF
 k11:KC K mg "SEALINGS" ge
 l26:yH K "in_order"
 l33:yH K "has_seal"
 l41:yH K "is_first_death"
 l63:yH K "bases_by"
section
variable {w:World}{K:Frag}{mg:SV}(T:Tx w K mg)
include T
theorem Yp:mz w K mg EO:=⟨T.hX,nofun,by simp only[EO,forall_mem_cons];exact⟨T.k0,T.k1,T.k2,T.k3,T.k4,T.k5,T.k6,T.k7,T.k9,T.k10,T.k11,nofun⟩,by simp only[EO,forall_mem_cons];exact⟨T.k8,nofun⟩,by simp only[EO,forall_mem_cons];exact⟨T.n0,T.n1,T.n2,T.n3,T.n4,T.n5,T.n6,T.n7,T.n8,T.n9,T.n10,T.n11,T.n12,T.n13,T.n14,T.n15,T.n16,T.n17,nofun⟩,by simp only[EO,forall_mem_cons];exact⟨T.l26,T.l33,T.l41,T.l63,nofun⟩⟩
theorem VO:mz w K mg (CG.gt aw):=CG.o T.d13 (Ir.o T.d12 (Iq.o T.d11 (Ip.o T.d10 (RT.o T.d9 (RS.o T.d8 (RQ.o T.d7 (RP.o T.d6 (RO.o T.d5 (RN.o T.d4 (RM.o T.d3 (RK.o T.d2 (RJ.o T.d1 (RI.o T.d0 (Yp T) 3) 1) 1) 1) 1) 1) 1) 1) 1) 1) 2) 1) 1) 2
theorem VP:mz w K mg (CK.gt jF):=CK.o T.d27 (IE.o T.d26 (ID.o T.d25 (IC.o T.d24 (CJ.o T.d23 (IB.o T.d22 (CH.o T.d21 (IA.o T.d20 (Iz.o T.d19 (Iy.o T.d18 (Ix.o T.d17 (Iw.o T.d16 (Iv.o T.d15 (Iu.o T.d14 (VO T) 1) 1) 1) 1) 2) 1) 1) 1) 2) 1) 2) 2) 2) 1
theorem VQ:mz w K mg (CL.gt eN):=CL.o T.d41 (IT.o T.d40 (IS.o T.d39 (IQ.o T.d38 (IP.o T.d37 (IN.o T.d36 (IM.o T.d35 (IL.o T.d34 (IK.o T.d33 (IJ.o T.d32 (II.o T.d31 (IH.o T.d30 (IG.o T.d29 (IF.o T.d28 (VP T) 2) 3) 4) 5) 4) 4) 3) 2) 2) 1) 2) 3) 4) 3
theorem VR:mz w K mg (CQ.gt gk):=CQ.o T.d55 (Jd.o T.d54 (Jc.o T.d53 (Jb.o T.d52 (Ja.o T.d51 (IZ.o T.d50 (IY.o T.d49 (CP.o T.d48 (IX.o T.d47 (CO.o T.d46 (IW.o T.d45 (CM.o T.d44 (IV.o T.d43 (IU.o T.d42 (VQ T) 4) 3) 4) 3) 5) 5) 2) 3) 3) 3) 2) 2) 3) 4
theorem VS:mz w K mg (CT.gt pG):=CT.o T.d69 (CS.o T.d68 (Jp.o T.d67 (Jo.o T.d66 (Jn.o T.d65 (Jm.o T.d64 (Jl.o T.d63 (Jk.o T.d62 (Jj.o T.d61 (Ji.o T.d60 (Jh.o T.d59 (Jg.o T.d58 (Jf.o T.d57 (Je.o T.d56 (VR T) 2) 2) 3) 3) 3) 3) 3) 4) 5) 6) 5) 5) 3) 2
theorem VT:mz w K mg (zd.gt kj):=zd.o T.d83 (Dc.o T.d82 (Jz.o T.d81 (CZ.o T.d80 (Jy.o T.d79 (CY.o T.d78 (Jx.o T.d77 (Jw.o T.d76 (Jv.o T.d75 (CV.o T.d74 (Ju.o T.d73 (Jt.o T.d72 (Js.o T.d71 (CU.o T.d70 (VS T) 1) 3) 4) 2) 1) 3) 5) 3) 2) 4) 4) 2) 4) 4
theorem head {P:Program}{fa:Addr}(M:mg "law" = some (.ref fa)):∃fd:FuncData,(∀(s:Shared)(u:Value),BindsTo s fd ⟨[u],[]⟩ [("_law_script",u)])/\∀base:Heap,K.In base->base.Ns mainGlobals mg->mO P w K mg base xK 16 fa fd ["_law_script"] (Li K F_law):=by
 have S:FnScope ["_law_script","_law_names_here","_law_rows_here","_law_one","_law_links","_law_number","_law_deed","_law_day","_law_person","_law_other","_law_good","_law_later","_law_some","_law_due","_law_gone"] ["_law_script"] (aC (aR 107)):=by refine⟨rr,rr,rr,?_,rr,?_,?_⟩<;>decide +kernel
 have ⟨h,X,G⟩:=T.hX;have e:F_law=ax (Df.r.getD qh) 1 14:=N8
 rw[e];exact bQ.law T.d84 X G M S (λ_ _ _ _ _ _ u=>rr) λbase U a f dA A outer s H E O=>Df.js I9 (VT T) S.nd O λh=>absurd h I9
end
end Lw
end
end Lake
open Lake
structure PySem.W.Fast:Prop where(tw5981704376633697895 tw7647350670730220395 tw15980561235626051116 tw7189133076771539568 tw9043929021829140710 tw7042755698769290606 tw4468392660004216591 tw8045232610447131084 tw13609287986924430211 tw16731337256081494900 tw9965785956943932621 tw2728854421783431692 tw10894185112294849533 tw18386465670078608567 tw4272698001947563357 tw6798881734831602454 tw2580824237311838984 tw14510985631027876028 tw2941205577034524412 tw16678199906641764039 tw4313829649660249416 tw6036182570886166529 tw13130874482659727605 tw13375996435966179932 tw3165842911443397760 tw6103896966263093041 tw120856624341529922 tw11214381374605162147 tw4615665756501047709 tw8813409609753408359 tw5972761333842690105 tw3411813520995076538 tw12725704315017738248 tw2942811545291352282 tw3124190040938745286 tw5679382678051696492 tw11470200344442226843 tw6810161636966129849 tw1654300112196153805 tw6920886200802638183 tw13904798826274068171 tw12894611001857211239 tw10518490319052981517 tw9976155300051140859 tw17465214604573547640 tw5506113772098216195 tw13885263216289659067 tw15703561298516611979 tw6948879487081170427 tw18060850597196525371 tw10534206704756979704 tw14018838705934816239 tw17747714435055699751 tw3339226301863170283 tw2332485923857839860 tw4405166001920962333 tw12318558198248791740 tw15987197429574205608 tw13340601342456101841 tw1171828166650192287 tw16729097146526481754 tw13177254875983379098 tw926783635023281930 tw5673700955125108057 tw5677521647350158424 tw15631730185240676747 tw2248286979476887481 tw15537463263404636329 tw5162864284524482894 tw907095054274682293 tw17109665481825346337 tw10393527078482939377 tw7147950831057059362 tw6650157804405737913 tw5439426380876829027 tw515384416891561691 tw8966530641483158954 tw2013748274219400405 tw8124017962733816283 tw11887702157100266859 tw5524966111130922031 tw5656344061473793632 tw12057058743226915693 tw9423967672984836185 tw15214106039977892697 tw10284782717954690685 tw12978976219112398654 tw7788514788046154707 tw1927985557700040629 tw4977298150202879563 tw16060827802617652364 tw13957712625658403327 tw16800203585968404025 tw2818438051725734493 tw11262444032833904296 tw9259874469222934518 tw1815877032924324936 tw13778021734484718476 tw1625215091337082709 tw3908417431120058961 tw4820626293890217763 tw5385530827896880649 tw11957197678349928103 tw13730400984071202687 tw10491201548308417282 tw12959240777002616976 tw14978768583941587888 tw4857465838397336121 tw20918059475415008 tw8670618651264722909 tw12251863590870479124 tw9951590117264503019 tw14790333650968695785 tw15028683291958545538 tw7980261584097188855 tw3914780930188931849 tw16981009120037858593 tw8004055336426520546 tw6083468325716088312 tw13236800887573412877 tw2682806673591945309 tw4697917619176617276 tw14571307170898688296 tw18158675226971892034 tw13287562475612557582 tw15505627781468331224 tw15406286104460084523 tw14740058280484806254 tw6719005418031741083 tw16420186663004583751 tw16524755098447028391 tw16485104141160647351 tw14942721302468632497 tw4407248559002410096 tw9297232834075057335 tw5614013031145688651 tw5915860803055190540 tw10382430549081691568 tw5468745037768108271 tw1509306708010868607 tw1034078076323355044 tw1051668676926707341 tw13417135448033980322 tw679784707451314417 tw10290471282104970612 tw13555702043115694064 tw12017049675442330089 tw18094571880488811177 tw9130458129136860950 tw11930358645416089365 tw2736418949749764026 tw4536620658025463371 tw516938153725805127 tw14904136438203984991 tw7326404451991607982 tw12718320289441461196 tw1321708255467619987 tw8970657726673234270 tw11858310904770342435 tw18022625165343827113 tw1259011804344857583 tw17681502998553766778 tw11582591892175381401 tw1964038992152218195 tw5026300935679202035 tw5980880495992708649 tw13998010649895796029 tw7436286936893022967 tw3950740417638555625 tw2415847329194049885 tw16203051305418832726 tw4991869861462135422 tw7832848570304150517 tw2940385499617100258 tw17140066364222807077 tw4045127748494149523 tw13107411238654608151 tw15373658090964174414 tw11007221578552320480 tw9699688553226627028 tw6146581792753977567 tw10512140572329104973 tw12257197373403664941 tw13411685317946222316 tw226022563483171062 tw11984950421913694011 tw10609128744289620696 tw11667385703039673519 tw551662568845131515 tw8186055408396119983 tw66050188147320757 tw12772213648224791487 tw9638780957891061868 tw11994637615988937468 tw4868407120014496540 tw17490745146955921518 tw8644734235597426381 tw13274651787555901290 tw2984933266942655895 tw4437741425689134264 tw13520153597854857696 tw4142685585019565998 tw16611053831470263877 tw742174330966866078 tw2491572496929417454 tw5362377184518845802 tw5167370286846473178 tw4155049336314594095 tw3339650902457139522 tw12648437360366648017 tw15763324304642612892 tw11240093906980831979 tw5513200373472589276 tw4366068383181155645 tw4312095843107512454 tw4193353087132573208 tw17699988972507491437 tw15160507897569261547 tw8261180179012566878 tw9808282116099883723 tw5348972965281368382 tw9951254866500558614 tw3252569682297993077 tw5825301485897326684 tw10395593524699422121 tw8100948064163673032 tw1411626210526446599 tw13737857169583600491 tw9351295364889658498 tw7305634071258113878 tw15101763278760427889 tw12714821851252581350 tw1329193771142632214 tw5291348253777931552 tw2127381729080259782 tw1249980168224696878 tw6726146384612311030 tw4805901488633654481 tw13094956727793603063 tw8540325469388989625 tw1354716180582389359 tw10587268139732516028 tw12963830160081713924 tw9766526383433675613 tw8483135523346495435 tw16097479757642333208 tw12748131922722153483 tw317055117698407749 tw13295420664904615816 tw17973529395888073256 tw8073343303921312054 tw3524442433811089578 tw2759286350192238346 tw15993424781478276050 tw9936628692317705567 tw3608346939667841629 tw8020842536405744287 tw6897990648647535511 tw6500794557290605713 tw5119729536064323655 tw11429836954070954465 tw10721471139609513083 tw12648278566557478945 tw1759068128068094269 tw5075856617105139517 tw16763201303687445981 tw5753152484740534966 tw3914585565168850341 tw3750655280148786977 tw18354954365764121263 tw16753621325040990691 tw11633390958748386559 tw17345805675910670640 tw13192970584492955693 tw7957451864474299120 tw3134605038096758840 tw2301141237200431870 tw18365406501546608067 tw14883319374339588928 tw1739615639652082837 tw17088961575557814774 tw11010170438519350655 tw8254638392656303752 tw7946916686050717390 tw5611053689469312806 tw4572800039359614735 tw13849003656250462680 tw10809875759208692708 tw10218830437322674463 tw6186135288127968149 tw7784107351088500869 tw7545524168471454841 tw17897277606568692155 tw1062336125665711559 tw7788885775156114406 tw3678032830316915600 tw3084749765948358646 tw1369291836030817699 tw12116553927703133658 tw11887726910620998001 tw8618825847419041821 tw7324428596251347535 tw12580440252232956290 tw8633334990083402759 tw5469195024494865366 tw17259489587984611383 tw14726275441484318553 tw11399215989388891894 tw610771714137366304 tw11184408089717803598 tw9197321422152921742 tw9094372481277818708 tw7569630996376519883 tw5702847467063131418 tw11154575055839367146 tw4362465061755268498 tw16416435209637516708 tw11649696186434779343 tw3584994907602520739 tw6957475659249831142 tw4452994697750683905 tw2442619710797499622 tw14391836352112676228 tw16262595680390101639 tw4853693352671103265 tw10044681527555438197 tw1770852824384551307 tw7241807793640764308 tw7044953393666577970 tw511357933435383277 tw10727364700580028308 tw15893723863226349325 tw3287703033543046622 tw1552519432928165448 tw4463332280605074099 tw17339165476696024718 tw14247926277447106462 tw8541872343087419005 tw17481030758850926499 tw14687030558424454038 tw8698787255448455675 tw6761006745449910459 tw6467779689058003668 tw3022334990038050358 tw17561554800528431340 tw15375274818780795662 tw13737967886429121744 tw11044066507478669446 tw11783697635637910308 tw16417127397178023475 tw7850776410029782301 tw14641131809799869054 tw8376153707810560857 tw16980447882587022260 tw15898600080145497118 tw4820954818202144947 tw3788978588979401049 tw17364363699189573742 tw9229903054625258710 tw983067167613093203 tw9344832093510093136 tw208730888273446408 tw18295079023870627788 tw16499442839430601657 tw16375756756737203371 tw8701130664582110334 tw4751577233777424596 tw1984260577045277367 tw12612707092630068040 tw2159859936041062531 tw12787178826132274157 tw17747583985891452617 tw11033007595601177906 tw8978807174517332937 tw4077274662058019179 tw9574605968647496161 tw2712238979505087917 tw2130411734030740392 tw18296862944442509064 tw18202942834071435726 tw17453901971093666186 tw15618034326982861647 tw13458199911380503522 tw11618350647333199875 tw101587226271359259 tw5442875925686816113 tw18103245842841693926 tw235287166506520149 tw14446319866837709956 tw12780910860666505947 tw1248504343718852426 tw11628137776018160037 tw295459959580769989 tw16289504031262500358 tw14074267839479563569 tw11118914287584935986 tw17339502105662475811:True)
open PySem PySem.W PyProof.Rows
set_option maxRecDepth 100000 in
set_option maxHeartbeats 0 in
theorem PySem.Challenge.cw_sealchain_k55_whole_called_in_holds : PySem.Challenge.rw_sealchain_k55_whole_called_in.Holds := by
 w_on; o_law; k_head; (case hw => w_witness2)
 k_fill
 refine' DL.walkB (l := PySem.Challenge.rw_sealchain_k55_whole_called_in) (k := 16) (x := ("_law_script" : PySem.Str)) (f := Lw.F_law) (L := [(("in_order" : PySem.Str), ?t0), (("has_seal" : PySem.Str), ?t1), (("is_first_death" : PySem.Str), ?t2), (("bases_by" : PySem.Str), ?t3), (("as_heard" : PySem.Str), ?t4)]) rfl rfl ⟨rfl, by decide, by decide⟩ (fun w h Y => PySem.W.km_in_of Y) ?T ?D ?F Lw.law_true
 case T =>
  intro w
  refine' DL.tabs_fit ?h0 ?h1 ?h2 ?h3 ?h4 ?ap ?nt
  (case h0 => refine' DL.tab_yes ?a ?l ?c ?m ?v; (case a => k_is); (case l => k_is); (case c => exact rfl); (case m => k_is); (case v => exact rfl))
  (case h1 => refine' DL.tab_yes ?a ?l ?c ?m ?v; (case a => k_is); (case l => k_is); (case c => exact rfl); (case m => k_is); (case v => exact rfl))
  (case h2 => refine' DL.tab_yes ?a ?l ?c ?m ?v; (case a => k_is); (case l => k_is); (case c => exact rfl); (case m => k_is); (case v => exact rfl))
  (case h3 => refine' DL.tab_yes ?a ?l ?c ?m ?v; (case a => k_is); (case l => k_is); (case c => exact rfl); (case m => k_is); (case v => exact rfl))
  (case h4 => refine' DL.tab_no ?a; (case a => k_is))
  (case ap => decide)
  (case nt => kernel_rfl)
 case D => kernel_rfl
 case F =>
  intro w mg fa h KX G hmg
  refine' Lw.head ⟨⟨h, KX, G⟩, ?d0, ?d1, ?d2, ?d3, ?d4, ?d5, ?d6, ?d7, ?d8, ?d9, ?d10, ?d11, ?d12, ?d13, ?d14, ?d15, ?d16, ?d17, ?d18, ?d19, ?d20, ?d21, ?d22, ?d23, ?d24, ?d25, ?d26, ?d27, ?d28, ?d29, ?d30, ?d31, ?d32, ?d33, ?d34, ?d35, ?d36, ?d37, ?d38, ?d39, ?d40, ?d41, ?d42, ?d43, ?d44, ?d45, ?d46, ?d47, ?d48, ?d49, ?d50, ?d51, ?d52, ?d53, ?d54, ?d55, ?d56, ?d57, ?d58, ?d59, ?d60, ?d61, ?d62, ?d63, ?d64, ?d65, ?d66, ?d67, ?d68, ?d69, ?d70, ?d71, ?d72, ?d73, ?d74, ?d75, ?d76, ?d77, ?d78, ?d79, ?d80, ?d81, ?d82, ?d83, ?d84, PySem.W.mg_none_of KX G ?z0, PySem.W.mg_none_of KX G ?z1, PySem.W.mg_none_of KX G ?z2, PySem.W.mg_none_of KX G ?z3, PySem.W.mg_none_of KX G ?z4, PySem.W.mg_none_of KX G ?z5, PySem.W.mg_none_of KX G ?z6, PySem.W.mg_none_of KX G ?z7, PySem.W.mg_none_of KX G ?z8, PySem.W.mg_none_of KX G ?z9, PySem.W.mg_none_of KX G ?z10, PySem.W.mg_none_of KX G ?z11, PySem.W.mg_none_of KX G ?z12, PySem.W.mg_none_of KX G ?z13, PySem.W.mg_none_of KX G ?z14, PySem.W.mg_none_of KX G ?z15, PySem.W.mg_none_of KX G ?z16, PySem.W.mg_none_of KX G ?z17, DL.kc_of KX G ?k0, DL.kc_of KX G ?k1, DL.kc_of KX G ?k2, DL.kc_of KX G ?k3, DL.kc_of KX G ?k4, DL.kc_of KX G ?k5, DL.kc_of KX G ?k6, DL.kc_of KX G ?k7, DL.kd_of KX G ?k8, DL.kc_of KX G ?k9, DL.kc_of KX G ?k10, DL.kc_of KX G ?k11, ?q0, ?q1, ?q2, ?q3⟩ hmg
  iterate 85 (refine' DL.def_mk ?a ?l ?c ?k; (case a => k_is); (case l => k_is); (case c => k_is); (case k => k_is))
  (case z0 => k_is)
  (case z1 => k_is)
  (case z2 => k_is)
  (case z3 => k_is)
  (case z4 => k_is)
  (case z5 => k_is)
  (case z6 => k_is)
  (case z7 => k_is)
  (case z8 => k_is)
  (case z9 => k_is)
  (case z10 => k_is)
  (case z11 => k_is)
  (case z12 => k_is)
  (case z13 => k_is)
  (case z14 => k_is)
  (case z15 => k_is)
  (case z16 => k_is)
  (case z17 => k_is)
  (case k0 => refine' DL.const_int ?e; (case e => k_is))
  (case k1 => refine' DL.const_int ?e; (case e => k_is))
  (case k2 => refine' DL.const_int ?e; (case e => k_is))
  (case k3 => refine' DL.const_int ?e; (case e => k_is))
  (case k4 => refine' DL.const_int ?e; (case e => k_is))
  (case k5 => refine' DL.const_int ?e; (case e => k_is))
  (case k6 => refine' DL.const_int ?e; (case e => k_is))
  (case k7 => refine' DL.const_tup ?e ?l ?v; (case e => k_is); (case l => k_is); (case v => decide +kernel))
  (case k8 => refine' DL.const_dict ?e ?l ?r ?s; (case e => k_is); (case l => k_is); (case r => refine' (DL.CRows.tup rfl ?l0 ?f0 (DL.CRows.tup rfl ?l1 ?f1 (DL.CRows.tup rfl ?l2 ?f2 (DL.CRows.tup rfl ?l3 ?f3 (DL.CRows.tup rfl ?l4 ?f4 (DL.CRows.tup rfl ?l5 ?f5 (DL.CRows.tup rfl ?l6 ?f6 (DL.CRows.tup rfl ?l7 ?f7 (DL.CRows.tup rfl ?l8 ?f8 (DL.CRows.tup rfl ?l9 ?f9 (DL.CRows.tup rfl ?l10 ?f10 (DL.CRows.tup rfl ?l11 ?f11 DL.CRows.nil)))))))))))); (case l0 => k_is); (case f0 => decide +kernel); (case l1 => k_is); (case f1 => decide +kernel); (case l2 => k_is); (case f2 => decide +kernel); (case l3 => k_is); (case f3 => decide +kernel); (case l4 => k_is); (case f4 => decide +kernel); (case l5 => k_is); (case f5 => decide +kernel); (case l6 => k_is); (case f6 => decide +kernel); (case l7 => k_is); (case f7 => decide +kernel); (case l8 => k_is); (case f8 => decide +kernel); (case l9 => k_is); (case f9 => decide +kernel); (case l10 => k_is); (case f10 => decide +kernel); (case l11 => k_is); (case f11 => decide +kernel)); (case s => decide +kernel))
  (case k9 => refine' DL.const_tup ?e ?l ?v; (case e => k_is); (case l => k_is); (case v => decide +kernel))
  (case k10 => refine' DL.const_tup ?e ?l ?v; (case e => k_is); (case l => k_is); (case v => decide +kernel))
  (case k11 => refine' DL.const_tup ?e ?l ?v; (case e => k_is); (case l => k_is); (case v => decide +kernel))
  (case q0 => refine' DL.lam_mk ?a ?l ?c ?m ?v1 ?v2 ?v3 ?v4 ?v5 ?v6 ?v7; (case a => k_is); (case l => k_is); (case c => exact rfl); (case m => k_is); (case v1 => exact rfl); (case v2 => exact rfl); (case v3 => exact rfl); (case v4 => exact rfl); (case v5 => exact rfl); (case v6 => exact rfl); (case v7 => decide))
  (case q1 => refine' DL.lam_mk ?a ?l ?c ?m ?v1 ?v2 ?v3 ?v4 ?v5 ?v6 ?v7; (case a => k_is); (case l => k_is); (case c => exact rfl); (case m => k_is); (case v1 => exact rfl); (case v2 => exact rfl); (case v3 => exact rfl); (case v4 => exact rfl); (case v5 => exact rfl); (case v6 => exact rfl); (case v7 => decide))
  (case q2 => refine' DL.lam_mk ?a ?l ?c ?m ?v1 ?v2 ?v3 ?v4 ?v5 ?v6 ?v7; (case a => k_is); (case l => k_is); (case c => exact rfl); (case m => k_is); (case v1 => exact rfl); (case v2 => exact rfl); (case v3 => exact rfl); (case v4 => exact rfl); (case v5 => exact rfl); (case v6 => exact rfl); (case v7 => decide))
  (case q3 => refine' DL.lam_mk ?a ?l ?c ?m ?v1 ?v2 ?v3 ?v4 ?v5 ?v6 ?v7; (case a => k_is); (case l => k_is); (case c => exact rfl); (case m => k_is); (case v1 => exact rfl); (case v2 => exact rfl); (case v3 => exact rfl); (case v4 => exact rfl); (case v5 => exact rfl); (case v6 => exact rfl); (case v7 => decide))
